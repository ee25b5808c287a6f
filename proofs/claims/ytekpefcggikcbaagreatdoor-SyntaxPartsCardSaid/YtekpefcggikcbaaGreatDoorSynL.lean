/- Layer 10: the contracts of par and item. -/
import Derived.Test.YtekpefcggikcbaaGreatDoorSynJ
namespace Go.Proofs.YtekpefcggikcbaaGreatDoor
open Go.RowKit

/-- append(s, x...) of a slice onto a row of the call's own: the data of both. -/
theorem appS {P : Program} {w : World} {ops : Array Oper} {rest : List Oper} {o : Oper} {a : Act} {Q : Exit → Act → World → Prop} (hgd : o.guard = none) (s x : Operand) (t : TypeId)
  (ho : o.op = .call { callee := .builtin .append, args := #[s, x], argTypes := #[t, t] })
  (e : TypeId) (zv : Value) (z by_ : Nat) (hinfo : (P.info? e).map (fun i => (i.zero, i.size, i.bytes)) = some (some zv, z, by_)) (hzs : zv.cells.size = z) (hz : 0 < z) (ht : P.underlying t = some (.slice e))
  (B : Nat) (v : Value) (n : Nat) (l l2 : List D) (hs : a.eval s = v) (hown : Bld w B e z v n l) (xv : Value) (hx : a.eval x = xv) (hl : Lies w (fun k => B ≤ k ∧ v.ownBlock ≠ some k) xv (.s z l2)) (hm : 0 < l2.length)
  (hr : (n + l2.length) * by_ ≤ 140737488355328) (hB : B ≤ w.heap.size) (hby : 0 < by_)
  (h : ∀ g cap m w', l2.length = m * z → Bld w' B e z (.slice (some ⟨g, 0, none⟩) (n + m) cap) (n + m) (l ++ l2) → w.grownBy w' v.ownBlock → wpList P ops Q rest (a.put o.dst (.slice (some ⟨g, 0, none⟩) (n + m) cap)) w') : wpList P ops Q (o :: rest) a w := by
 obtain ⟨us, ho1, ho2⟩ := hown
 obtain ⟨i0, hi, hz0, hz1, hz2⟩ := info_parts hinfo
 generalize hd : D.s z l2 = d at hl
 cases hl with
 | c v hv => cases hd
 | nil z' => simp only [D.s.injEq] at hd; rw [hd.2] at hm; simp at hm
 | e0 ad cap z' => simp only [D.s.injEq] at hd; rw [hd.2] at hm; simp at hm
 | sl b of m cap z' ns l' h1 h2 h3 h4 h5 h6 h7 =>
  simp only [D.s.injEq] at hd
  obtain ⟨rfl, rfl⟩ := hd
  have hlies : LiesL w (fun k => B ≤ k ∧ v.ownBlock ≠ some k) ns l2 := ⟨h3, h7⟩
  have hm0 : 0 < m := by
   rcases Nat.eq_zero_or_pos m with h0 | h0
   ·rw [h0, Nat.zero_mul] at h4; omega
   ·exact h0
  have hml : m ≤ l2.length := by rw [← h4]; exact Nat.le_mul_of_pos_right _ hz
  have hr2 : (n + m) * by_ ≤ 140737488355328 := Nat.le_trans (Nat.mul_le_mul_right _ (by omega)) hr
  have hr3 : n + m ≤ 140737488355328 := Nat.le_trans (Nat.le_mul_of_pos_right _ hby) hr2
  refine wpList_append_lies w hgd s x t ho B e i0 zv z by_ ht hi hz0 hz1 hz2 hzs hz v n us hs ho1 ⟨b, of, none⟩ m cap ns hx (by rw [h3, ← h4]) (fun j u hj => ?_) hlies.one hm0 (by unfold maxLen; omega) hr2 hB w.heap.size rfl ?_
  ·rw [show (⟨b, of, none⟩ : Addr).add j = ⟨b, of + j, none⟩ by unfold Addr.add; split <;> simp_all]
   exact h6 j u hj
  ·intro g cap w' hown' hgr hfr hlt
   refine h g cap m w' h4.symm ⟨us ++ ns, hown', ?_⟩ hgr
   refine LiesL.mono (S := fun k => k < w.heap.size ∧ B ≤ k ∧ v.ownBlock ≠ some k) ?_ (LiesL.keep (w := w) hgr.size ?_ ((ho2.append hlies).mono fun k hk hS => ⟨hk, hS⟩))
   ·intro k _ hS
    refine ⟨hS.2.1, fun hk => ?_⟩
    have hk' : g = k := by simpa [Value.ownBlock] using hk
    subst hk'
    rcases hfr with hfr | hfr
    ·exact hS.2.2 hfr
    ·omega
   ·intro k hk hS
    exact hgr.block k hk (fun eq => hS.2.2 eq.symm)
section
variable {w w' : World} {g E n : Nat} {s : St} {p : P (List It)}
set_option maxRecDepth 20000 in
set_option maxHeartbeats 2000000 in
theorem ppar_any (hp : Dec p) (HI : ItemsOK g E n p) (h : Prs w g E s) (hn : s.r.length < n) : Calls Tryz.prog 229 #[.pointer (some ⟨g, 0, none⟩)] w (GotL w g E (parP E p s).2 (dIt (parP E p s).1)) := by
 obtain ⟨s1, hs1⟩ : ∃ s1, (blockP E p s).2 = s1 := ⟨_, rfl⟩
 have HS1 := Lib.hid hs1
 obtain ⟨b, hv1⟩ : ∃ b, (blockP E p s).1 = b := ⟨_, rfl⟩
 have HV1 := Lib.hid hv1
 obtain ⟨s2, hs2⟩ : ∃ s2, (expectP E [97, 110, 100] s1).2 = s2 := ⟨_, rfl⟩
 have HS2 := Lib.hid hs2
 obtain ⟨s3, hs3⟩ : ∃ s3, (sepP E [97, 110, 100] (blockP E p) s2).2 = s3 := ⟨_, rfl⟩
 have HS3 := Lib.hid hs3
 obtain ⟨bs, hv3⟩ : ∃ bs, (sepP E [97, 110, 100] (blockP E p) s2).1 = bs := ⟨_, rfl⟩
 have HV3 := Lib.hid hv3
 have HR := Lib.hid (show parP E p s = (It.mk 5 [] [] [] [] 0 (b :: bs), s3) by subst hs1; subst hv1; subst hs2; subst hs3; subst hv3; rfl)
 rw [HR.out]
 have hmf := makeFunc_run
 have h20 : s2.r.length ≤ s.r.length := by rw [← hs2, ← hs1]; exact Nat.le_trans (expectP_dec _ _) (blockP_dec hp _)
 have hlb := sepP_len (E := E) (mark := [97, 110, 100]) (rd := blockP E p) (blockP_dec hp) s2
 rw [hv3] at hlb
 have hsl := h.small.len
 have HLB := Lib.hid (show bs.length ≤ 8001 by omega)
 have HB0 := Lib.hid (show 0 < bs.length by rw [← hv3]; unfold sepP; simp)
 have HN := Lib.hid hn
 have HN2 := Lib.hid (show s2.r.length < n by omega)
 have HI2 := Lib.hid HI
 have HPD := Lib.hid hp
 have H := Lib.hid h
 have hlt := h.lt
 have HO := Lib.hid (Only.refl g w)
 clear h hs1 hv1 hs2 hs3 hv3 hn h20 hlb hsl HI hp
 go_enter Tryz.func229, Tryz.ntmps229
 have P1' : Hid (Prs ((w).alloc (.cells #[.int .i64 0, .string ⟨#[]⟩, .slice none 0 0, .string ⟨#[]⟩, .string ⟨#[]⟩, .int .i64 0, .slice none 0 0] 70)) g E _) := H.out.alloc _
 have O1' : Hid (Only g w ((w).alloc (.cells #[.int .i64 0, .string ⟨#[]⟩, .slice none 0 0, .string ⟨#[]⟩, .string ⟨#[]⟩, .int .i64 0, .slice none 0 0] 70))) := HO.out.alloc _
 have Br_1 : Hid (Bx ((w).alloc (.cells #[.int .i64 0, .string ⟨#[]⟩, .slice none 0 0, .string ⟨#[]⟩, .string ⟨#[]⟩, .int .i64 0, .slice none 0 0] 70)) (w.heap.size) 70 #[.int .i64 0, .string ⟨#[]⟩, .slice none 0 0, .string ⟨#[]⟩, .string ⟨#[]⟩, .int .i64 0, .slice none 0 0]) := Bx.new2 (rfl)
 go_wp2_with fail
 refine (pblock_any HI2.out P1'.out HN.out).mono ?_; rintro e w2 ⟨v, rfl, LV, P2, O2⟩
 obtain ⟨AB, nB, cB, rfl, -⟩ := LV.slc
 rw [HV1.out] at LV
 rw [HS1.out] at P2
 have LB_2 := Lib.hid (show Lies w2 (fun k => w.heap.size + 1 ≤ k) (.slice AB nB cB) (dB b) from by have := LV; simp only [size_alloc] at this; exact this)
 have P2' := Lib.hid P2
 have O2' := Lib.hid (O1'.out.trans O2)
 have Br_2 := Lib.hid (Br_1.out.only O2 (by omega))
 have hz2 : w.heap.size + 1 ≤ w2.heap.size := by have := O2.size; simp only [size_alloc] at this; exact this
 clear P2 O2 LV
 go_wp2_with fail
 refine (pexpect_any P2'.out [97, 110, 100]).mono ?_; rintro e w3 ⟨rfl, P3, O3⟩
 rw [HS2.out] at P3
 have P3' := Lib.hid P3
 have O3' := Lib.hid (O2'.out.trans O3)
 have Br_3 := Lib.hid (Br_2.out.only O3 (by omega))
 have LB_3 := Lib.hid (LB_2.out.only O3 (by omega))
 have hz3 : w2.heap.size ≤ w3.heap.size := O3.size
 clear P3 O3
 go_wp2_with fail
 refine ((sepBlock_any _ (blockP_dec HPD.out) (block_rd HI2.out s2.r.length HN2.out) [97, 110, 100] P3'.out (Nat.le_refl _) P3'.out.small.len).mono (fun _ _ h => GotB.toD h)).mono ?_; rintro e w4 ⟨v, rfl, LV, P4, O4⟩
 obtain ⟨AC, nC, cC, rfl, -⟩ := LV.slc
 rw [HV3.out] at LV
 rw [HS3.out] at P4
 have LC_4 := Lib.hid (show Lies w4 (fun k => w3.heap.size ≤ k) (.slice AC nC cC) (.s 1 (bs.flatMap fun x => [dB x])) from LV)
 have P4' := Lib.hid P4
 have O4' := Lib.hid (O3'.out.trans O4)
 have Br_4 := Lib.hid (Br_3.out.only O4 (by omega))
 have LB_4 := Lib.hid (LB_3.out.only O4 (by omega))
 have hz4 : w3.heap.size ≤ w4.heap.size := O4.size
 clear P4 O4 LV
 have hzw : w.heap.size + 1 ≤ w4.heap.size := by omega
 have BL := Lib.hid (Bld.lit w4 57 #[.slice AB nB cB] [dB b] 1 rfl (LiesL.cons (LB_4.out.from (by omega : w.heap.size + 1 ≤ w.heap.size + 1)) (LiesL.nil _ _)) hzw)
 have LC2 := Lib.hid (show Lies (w4.alloc (.cells #[.slice AB nB cB] 57)) (fun k => w.heap.size + 1 ≤ k ∧ (Value.slice (some ⟨w4.heap.size, 0, none⟩) 1 1).ownBlock ≠ some k) (.slice AC nC cC) (.s 1 (bs.flatMap fun x => [dB x])) from (LC_4.out.mono (T := fun k => w.heap.size + 1 ≤ k ∧ (Value.slice (some ⟨w4.heap.size, 0, none⟩) 1 1).ownBlock ≠ some k) fun k hk hS => ⟨by omega, by simp [Value.ownBlock]; omega⟩).belowT ((Below.refl _ _).alloc (Nat.le_refl _) _))
 have hlen : (bs.flatMap fun x => [dB x]).length = bs.length := by rw [fm1, List.length_map]
 have hr : (1 + (bs.flatMap fun x => [dB x]).length) * 24 ≤ 140737488355328 := by rw [hlen]; have := HLB.out; omega
 have hm0 : 0 < (bs.flatMap fun x => [dB x]).length := by rw [hlen]; exact HB0.out
 have HRR := Lib.hid hr
 have HMM := Lib.hid hm0
 clear hr hm0 hlen
 have hzw2 : w.heap.size + 1 ≤ (w4.alloc (.cells #[.slice AB nB cB] 57)).heap.size := by rw [size_alloc]; omega
 go_wp2_with (at_builtin; refine appS rfl _ _ 68 rfl 57 _ 1 24 info_Block rfl (by decide) Tryz.underlying68 (w.heap.size + 1) (.slice (some ⟨w4.heap.size, 0, none⟩) 1 1) 1 _ _ rfl BL.out _ rfl LC2.out HMM.out HRR.out hzw2 (by decide) ?_; intro gg cap m w20 hmm DB hgr; have DB2 := Lib.hid DB; have BB := Lib.hid (grown_below BL.out hgr hzw2); clear DB hgr hmm; have OF := Lib.hid (Only.to (O4'.out.alloc _) (BB.out.mono (by omega))); have PF := Lib.hid ((P4'.out.alloc _).below BB.out (by omega)); have RF := Lib.hid (show Bx w20 _ _ _ from (BB.out.block _ (by omega)).trans (Br_4.out.alloc _)); have k0 := RF.out.cell 0; have k1 := RF.out.cell 1; have k2 := RF.out.cell 2; have k3 := RF.out.cell 3; have k4 := RF.out.cell 4; have k5 := RF.out.cell 5; have k6 := RF.out.cell 6; have f0 := RF.out.free 0; have f1 := RF.out.free 1; have f2 := RF.out.free 2; have f3 := RF.out.free 3; have f4 := RF.out.free 4; have f5 := RF.out.free 5; have f6 := RF.out.free 6)
 have hz20 : w.heap.size + 1 ≤ w20.heap.size := by have := RF.out.lt; omega
 have LF := Lib.hid (show Lies w20 (fun k => w.heap.size + 1 ≤ k) (.slice (some ⟨gg, 0, none⟩) (1 + m) cap) (.s 1 (dBl (b :: bs))) by rw [dBl_map]; exact DB2.out.lies)
 have P5' : Hid (Prs ((w20).setCell ⟨w.heap.size, 0, none⟩ (.int .i64 5)) g E _) := PF.out.own (by omega) _ _
 have O5' : Hid (Only g w ((w20).setCell ⟨w.heap.size, 0, none⟩ (.int .i64 5))) := OF.out.own (by omega) _ _
 have Br_5 : Hid (Bx ((w20).setCell ⟨w.heap.size, 0, none⟩ (.int .i64 5)) (w.heap.size) 70 #[.int .i64 5, .string ⟨#[]⟩, .slice none 0 0, .string ⟨#[]⟩, .string ⟨#[]⟩, .int .i64 0, .slice none 0 0]) := RF.out.set 0 _
 have LF_5 : Hid (Lies ((w20).setCell ⟨w.heap.size, 0, none⟩ (.int .i64 5)) _ _ _) := LF.out.set (by omega)
 have P6' : Hid (Prs (((w20).setCell ⟨w.heap.size, 0, none⟩ (.int .i64 5)).setCell ⟨w.heap.size, 1, none⟩ (.string ⟨#[]⟩)) g E _) := P5'.out.own (by omega) _ _
 have O6' : Hid (Only g w (((w20).setCell ⟨w.heap.size, 0, none⟩ (.int .i64 5)).setCell ⟨w.heap.size, 1, none⟩ (.string ⟨#[]⟩))) := O5'.out.own (by omega) _ _
 have Br_6 : Hid (Bx (((w20).setCell ⟨w.heap.size, 0, none⟩ (.int .i64 5)).setCell ⟨w.heap.size, 1, none⟩ (.string ⟨#[]⟩)) (w.heap.size) 70 #[.int .i64 5, .string ⟨#[]⟩, .slice none 0 0, .string ⟨#[]⟩, .string ⟨#[]⟩, .int .i64 0, .slice none 0 0]) := Br_5.out.set 1 _
 have LF_6 : Hid (Lies (((w20).setCell ⟨w.heap.size, 0, none⟩ (.int .i64 5)).setCell ⟨w.heap.size, 1, none⟩ (.string ⟨#[]⟩)) _ _ _) := LF_5.out.set (by omega)
 have P7' : Hid (Prs ((((w20).setCell ⟨w.heap.size, 0, none⟩ (.int .i64 5)).setCell ⟨w.heap.size, 1, none⟩ (.string ⟨#[]⟩)).setCell ⟨w.heap.size, 2, none⟩ (.slice none 0 0)) g E _) := P6'.out.own (by omega) _ _
 have O7' : Hid (Only g w ((((w20).setCell ⟨w.heap.size, 0, none⟩ (.int .i64 5)).setCell ⟨w.heap.size, 1, none⟩ (.string ⟨#[]⟩)).setCell ⟨w.heap.size, 2, none⟩ (.slice none 0 0))) := O6'.out.own (by omega) _ _
 have Br_7 : Hid (Bx ((((w20).setCell ⟨w.heap.size, 0, none⟩ (.int .i64 5)).setCell ⟨w.heap.size, 1, none⟩ (.string ⟨#[]⟩)).setCell ⟨w.heap.size, 2, none⟩ (.slice none 0 0)) (w.heap.size) 70 #[.int .i64 5, .string ⟨#[]⟩, .slice none 0 0, .string ⟨#[]⟩, .string ⟨#[]⟩, .int .i64 0, .slice none 0 0]) := Br_6.out.set 2 _
 have LF_7 : Hid (Lies ((((w20).setCell ⟨w.heap.size, 0, none⟩ (.int .i64 5)).setCell ⟨w.heap.size, 1, none⟩ (.string ⟨#[]⟩)).setCell ⟨w.heap.size, 2, none⟩ (.slice none 0 0)) _ _ _) := LF_6.out.set (by omega)
 have P8' : Hid (Prs (((((w20).setCell ⟨w.heap.size, 0, none⟩ (.int .i64 5)).setCell ⟨w.heap.size, 1, none⟩ (.string ⟨#[]⟩)).setCell ⟨w.heap.size, 2, none⟩ (.slice none 0 0)).setCell ⟨w.heap.size, 3, none⟩ (.string ⟨#[]⟩)) g E _) := P7'.out.own (by omega) _ _
 have O8' : Hid (Only g w (((((w20).setCell ⟨w.heap.size, 0, none⟩ (.int .i64 5)).setCell ⟨w.heap.size, 1, none⟩ (.string ⟨#[]⟩)).setCell ⟨w.heap.size, 2, none⟩ (.slice none 0 0)).setCell ⟨w.heap.size, 3, none⟩ (.string ⟨#[]⟩))) := O7'.out.own (by omega) _ _
 have Br_8 : Hid (Bx (((((w20).setCell ⟨w.heap.size, 0, none⟩ (.int .i64 5)).setCell ⟨w.heap.size, 1, none⟩ (.string ⟨#[]⟩)).setCell ⟨w.heap.size, 2, none⟩ (.slice none 0 0)).setCell ⟨w.heap.size, 3, none⟩ (.string ⟨#[]⟩)) (w.heap.size) 70 #[.int .i64 5, .string ⟨#[]⟩, .slice none 0 0, .string ⟨#[]⟩, .string ⟨#[]⟩, .int .i64 0, .slice none 0 0]) := Br_7.out.set 3 _
 have LF_8 : Hid (Lies (((((w20).setCell ⟨w.heap.size, 0, none⟩ (.int .i64 5)).setCell ⟨w.heap.size, 1, none⟩ (.string ⟨#[]⟩)).setCell ⟨w.heap.size, 2, none⟩ (.slice none 0 0)).setCell ⟨w.heap.size, 3, none⟩ (.string ⟨#[]⟩)) _ _ _) := LF_7.out.set (by omega)
 have P9' : Hid (Prs ((((((w20).setCell ⟨w.heap.size, 0, none⟩ (.int .i64 5)).setCell ⟨w.heap.size, 1, none⟩ (.string ⟨#[]⟩)).setCell ⟨w.heap.size, 2, none⟩ (.slice none 0 0)).setCell ⟨w.heap.size, 3, none⟩ (.string ⟨#[]⟩)).setCell ⟨w.heap.size, 4, none⟩ (.string ⟨#[]⟩)) g E _) := P8'.out.own (by omega) _ _
 have O9' : Hid (Only g w ((((((w20).setCell ⟨w.heap.size, 0, none⟩ (.int .i64 5)).setCell ⟨w.heap.size, 1, none⟩ (.string ⟨#[]⟩)).setCell ⟨w.heap.size, 2, none⟩ (.slice none 0 0)).setCell ⟨w.heap.size, 3, none⟩ (.string ⟨#[]⟩)).setCell ⟨w.heap.size, 4, none⟩ (.string ⟨#[]⟩))) := O8'.out.own (by omega) _ _
 have Br_9 : Hid (Bx ((((((w20).setCell ⟨w.heap.size, 0, none⟩ (.int .i64 5)).setCell ⟨w.heap.size, 1, none⟩ (.string ⟨#[]⟩)).setCell ⟨w.heap.size, 2, none⟩ (.slice none 0 0)).setCell ⟨w.heap.size, 3, none⟩ (.string ⟨#[]⟩)).setCell ⟨w.heap.size, 4, none⟩ (.string ⟨#[]⟩)) (w.heap.size) 70 #[.int .i64 5, .string ⟨#[]⟩, .slice none 0 0, .string ⟨#[]⟩, .string ⟨#[]⟩, .int .i64 0, .slice none 0 0]) := Br_8.out.set 4 _
 have LF_9 : Hid (Lies ((((((w20).setCell ⟨w.heap.size, 0, none⟩ (.int .i64 5)).setCell ⟨w.heap.size, 1, none⟩ (.string ⟨#[]⟩)).setCell ⟨w.heap.size, 2, none⟩ (.slice none 0 0)).setCell ⟨w.heap.size, 3, none⟩ (.string ⟨#[]⟩)).setCell ⟨w.heap.size, 4, none⟩ (.string ⟨#[]⟩)) _ _ _) := LF_8.out.set (by omega)
 have P10' : Hid (Prs (((((((w20).setCell ⟨w.heap.size, 0, none⟩ (.int .i64 5)).setCell ⟨w.heap.size, 1, none⟩ (.string ⟨#[]⟩)).setCell ⟨w.heap.size, 2, none⟩ (.slice none 0 0)).setCell ⟨w.heap.size, 3, none⟩ (.string ⟨#[]⟩)).setCell ⟨w.heap.size, 4, none⟩ (.string ⟨#[]⟩)).setCell ⟨w.heap.size, 5, none⟩ (.int .i64 0)) g E _) := P9'.out.own (by omega) _ _
 have O10' : Hid (Only g w (((((((w20).setCell ⟨w.heap.size, 0, none⟩ (.int .i64 5)).setCell ⟨w.heap.size, 1, none⟩ (.string ⟨#[]⟩)).setCell ⟨w.heap.size, 2, none⟩ (.slice none 0 0)).setCell ⟨w.heap.size, 3, none⟩ (.string ⟨#[]⟩)).setCell ⟨w.heap.size, 4, none⟩ (.string ⟨#[]⟩)).setCell ⟨w.heap.size, 5, none⟩ (.int .i64 0))) := O9'.out.own (by omega) _ _
 have Br_10 : Hid (Bx (((((((w20).setCell ⟨w.heap.size, 0, none⟩ (.int .i64 5)).setCell ⟨w.heap.size, 1, none⟩ (.string ⟨#[]⟩)).setCell ⟨w.heap.size, 2, none⟩ (.slice none 0 0)).setCell ⟨w.heap.size, 3, none⟩ (.string ⟨#[]⟩)).setCell ⟨w.heap.size, 4, none⟩ (.string ⟨#[]⟩)).setCell ⟨w.heap.size, 5, none⟩ (.int .i64 0)) (w.heap.size) 70 #[.int .i64 5, .string ⟨#[]⟩, .slice none 0 0, .string ⟨#[]⟩, .string ⟨#[]⟩, .int .i64 0, .slice none 0 0]) := Br_9.out.set 5 _
 have LF_10 : Hid (Lies (((((((w20).setCell ⟨w.heap.size, 0, none⟩ (.int .i64 5)).setCell ⟨w.heap.size, 1, none⟩ (.string ⟨#[]⟩)).setCell ⟨w.heap.size, 2, none⟩ (.slice none 0 0)).setCell ⟨w.heap.size, 3, none⟩ (.string ⟨#[]⟩)).setCell ⟨w.heap.size, 4, none⟩ (.string ⟨#[]⟩)).setCell ⟨w.heap.size, 5, none⟩ (.int .i64 0)) _ _ _) := LF_9.out.set (by omega)
 have P11' : Hid (Prs ((((((((w20).setCell ⟨w.heap.size, 0, none⟩ (.int .i64 5)).setCell ⟨w.heap.size, 1, none⟩ (.string ⟨#[]⟩)).setCell ⟨w.heap.size, 2, none⟩ (.slice none 0 0)).setCell ⟨w.heap.size, 3, none⟩ (.string ⟨#[]⟩)).setCell ⟨w.heap.size, 4, none⟩ (.string ⟨#[]⟩)).setCell ⟨w.heap.size, 5, none⟩ (.int .i64 0)).setCell ⟨w.heap.size, 6, none⟩ (.slice (some ⟨gg, 0, none⟩) (1 + m) cap)) g E _) := P10'.out.own (by omega) _ _
 have O11' : Hid (Only g w ((((((((w20).setCell ⟨w.heap.size, 0, none⟩ (.int .i64 5)).setCell ⟨w.heap.size, 1, none⟩ (.string ⟨#[]⟩)).setCell ⟨w.heap.size, 2, none⟩ (.slice none 0 0)).setCell ⟨w.heap.size, 3, none⟩ (.string ⟨#[]⟩)).setCell ⟨w.heap.size, 4, none⟩ (.string ⟨#[]⟩)).setCell ⟨w.heap.size, 5, none⟩ (.int .i64 0)).setCell ⟨w.heap.size, 6, none⟩ (.slice (some ⟨gg, 0, none⟩) (1 + m) cap))) := O10'.out.own (by omega) _ _
 have Br_11 : Hid (Bx ((((((((w20).setCell ⟨w.heap.size, 0, none⟩ (.int .i64 5)).setCell ⟨w.heap.size, 1, none⟩ (.string ⟨#[]⟩)).setCell ⟨w.heap.size, 2, none⟩ (.slice none 0 0)).setCell ⟨w.heap.size, 3, none⟩ (.string ⟨#[]⟩)).setCell ⟨w.heap.size, 4, none⟩ (.string ⟨#[]⟩)).setCell ⟨w.heap.size, 5, none⟩ (.int .i64 0)).setCell ⟨w.heap.size, 6, none⟩ (.slice (some ⟨gg, 0, none⟩) (1 + m) cap)) (w.heap.size) 70 #[.int .i64 5, .string ⟨#[]⟩, .slice none 0 0, .string ⟨#[]⟩, .string ⟨#[]⟩, .int .i64 0, .slice (some ⟨gg, 0, none⟩) (1 + m) cap]) := Br_10.out.set 6 _
 have LF_11 : Hid (Lies ((((((((w20).setCell ⟨w.heap.size, 0, none⟩ (.int .i64 5)).setCell ⟨w.heap.size, 1, none⟩ (.string ⟨#[]⟩)).setCell ⟨w.heap.size, 2, none⟩ (.slice none 0 0)).setCell ⟨w.heap.size, 3, none⟩ (.string ⟨#[]⟩)).setCell ⟨w.heap.size, 4, none⟩ (.string ⟨#[]⟩)).setCell ⟨w.heap.size, 5, none⟩ (.int .i64 0)).setCell ⟨w.heap.size, 6, none⟩ (.slice (some ⟨gg, 0, none⟩) (1 + m) cap)) _ _ _) := LF_10.out.set (by omega)
 refine bodyPost_ret (v := .agg #[.int .i64 5, .string ⟨#[]⟩, .slice none 0 0, .string ⟨#[]⟩, .string ⟨#[]⟩, .int .i64 0, .slice (some ⟨gg, 0, none⟩) (1 + m) cap]) (bx_ret Br_11.out Tryz.results229 _ rfl Tryz.underlying70 rfl (by kernel_rfl)) rfl ?_
 exact ⟨_, rfl, (LiesL.cons (.c _ rfl) (LiesL.cons (.c _ rfl) (LiesL.cons (.nil _) (LiesL.cons (.c _ rfl) (LiesL.cons (.c _ rfl) (LiesL.cons (.c _ rfl) (LiesL.cons (LF_11.out.from (by omega)) (LiesL.nil _ _)))))))), P11'.out, O11'.out⟩
end
end Go.Proofs.YtekpefcggikcbaaGreatDoor
