/- Layer 10: the contracts of par and item. -/
import Derived.Test.YtekpefcggikcbaaGreatDoorSynJ
import Derived.Test.YtekpefcggikcbaaGreatDoorMSynU
import Derived.Test.YtekpefcggikcbaaGreatDoorMPtLn
import Derived.Test.YtekpefcggikcbaaGreatDoorMLexSp
import Derived.Test.YtekpefcggikcbaaGreatDoorMSynQ
namespace Go.Proofs.YtekpefcggikcbaaGreatDoor
/- Layer 10: the contracts of par and item. -/
open Go.RowKit

/-- append(s, x...) of a slice onto a row of the call's own: the data of both. -/
theorem appS {P : Program} {w : World} {ops : Array Oper} {rest : List Oper} {o : Oper} {a : Act} {Q : Exit → Act → World → Prop} (hgd : o.guard = none) (s x : Operand) (t : TypeId)
  (ho : o.op = .call { callee := .builtin .append, args := #[s, x], argTypes := #[t, t] })
  (e : TypeId) (zv : Value) (z by_ : Nat) (hinfo : (P.info? e).map (fun i => (i.zero, i.size, i.bytes)) = some (some zv, z, by_)) (hzs : zv.cells.size = z) (hz : 0 < z) (ht : P.underlying t = some (.slice e))
  (B : Nat) (v : Value) (n : Nat) (l l2 : List D) (hs : a.eval s = v) (hown : Bld w B e z v n l) (xv : Value) (hx : a.eval x = xv) (hl : Lies w (fun k => B ≤ k ∧ v.ownBlock ≠ some k) xv (.s z l2)) (hm : 0 < l2.length)
  (hr : (n + l2.length) * by_ ≤ 140737488355328) (hB : B ≤ w.heap.size) (hby : 0 < by_)
  (h : ∀ g cap m w', l2.length = m * z → Bld w' B e z (.slice (some ⟨g, 0, none⟩) (n + m) cap) (n + m) (l ++ l2) → w.grownBy w' v.ownBlock → wpList P ops Q rest (a.put o.dst (.slice (some ⟨g, 0, none⟩) (n + m) cap)) w') : wpList P ops Q (o :: rest) a w := by
 obtain ⟨us, ho1, ho2⟩ := hown
 obtain ⟨i0, hi, hz0, hz1, hz2⟩ := info_parts hinfo
 generalize hd : D.s z l2 = d at hl
 cases hl with
 | c v hv => cases hd
 | nil z' => simp only [D.s.injEq] at hd; rw [hd.2] at hm; simp at hm
 | e0 ad cap z' => simp only [D.s.injEq] at hd; rw [hd.2] at hm; simp at hm
 | sl b of m cap z' ns l' h1 h2 h3 h4 h5 h6 h7 =>
  simp only [D.s.injEq] at hd
  obtain ⟨rfl, rfl⟩ := hd
  have hlies : LiesL w (fun k => B ≤ k ∧ v.ownBlock ≠ some k) ns l2 := ⟨h3, h7⟩
  have hm0 : 0 < m := by
   rcases Nat.eq_zero_or_pos m with h0 | h0
   ·rw [h0, Nat.zero_mul] at h4; omega
   ·exact h0
  have hml : m ≤ l2.length := by rw [← h4]; exact Nat.le_mul_of_pos_right _ hz
  have hr2 : (n + m) * by_ ≤ 140737488355328 := Nat.le_trans (Nat.mul_le_mul_right _ (by omega)) hr
  have hr3 : n + m ≤ 140737488355328 := Nat.le_trans (Nat.le_mul_of_pos_right _ hby) hr2
  refine wpList_append_lies w hgd s x t ho B e i0 zv z by_ ht hi hz0 hz1 hz2 hzs hz v n us hs ho1 ⟨b, of, none⟩ m cap ns hx (by rw [h3, ← h4]) (fun j u hj => ?_) hlies.one hm0 (by unfold maxLen; omega) hr2 hB w.heap.size rfl ?_
  ·rw [show (⟨b, of, none⟩ : Addr).add j = ⟨b, of + j, none⟩ by unfold Addr.add; split <;> simp_all]
   exact h6 j u hj
  ·intro g cap w' hown' hgr hfr hlt
   refine h g cap m w' h4.symm ⟨us ++ ns, hown', ?_⟩ hgr
   refine LiesL.mono (S := fun k => k < w.heap.size ∧ B ≤ k ∧ v.ownBlock ≠ some k) ?_ (LiesL.keep (w := w) hgr.size ?_ ((ho2.append hlies).mono fun k hk hS => ⟨hk, hS⟩))
   ·intro k _ hS
    refine ⟨hS.2.1, fun hk => ?_⟩
    have hk' : g = k := by simpa [Value.ownBlock] using hk
    subst hk'
    rcases hfr with hfr | hfr
    ·exact hS.2.2 hfr
    ·omega
   ·intro k hk hS
    exact hgr.block k hk (fun eq => hS.2.2 eq.symm)
section
variable {w w' : World} {g E n : Nat} {s : St} {p : P (List It)}
set_option maxRecDepth 20000 in
set_option maxHeartbeats 2000000 in
theorem ppar_any (hp : Dec p) (HI : ItemsOK g E n p) (h : Prs w g E s) (hn : s.r.length < n) : Calls Tryz.prog 229 #[.pointer (some ⟨g, 0, none⟩)] w (GotL w g E (parP E p s).2 (dIt (parP E p s).1)) := by
 obtain ⟨s1, hs1⟩ : ∃ s1, (blockP E p s).2 = s1 := ⟨_, rfl⟩
 have HS1 := Lib.hid hs1
 obtain ⟨b, hv1⟩ : ∃ b, (blockP E p s).1 = b := ⟨_, rfl⟩
 have HV1 := Lib.hid hv1
 obtain ⟨s2, hs2⟩ : ∃ s2, (expectP E [97, 110, 100] s1).2 = s2 := ⟨_, rfl⟩
 have HS2 := Lib.hid hs2
 obtain ⟨s3, hs3⟩ : ∃ s3, (sepP E [97, 110, 100] (blockP E p) s2).2 = s3 := ⟨_, rfl⟩
 have HS3 := Lib.hid hs3
 obtain ⟨bs, hv3⟩ : ∃ bs, (sepP E [97, 110, 100] (blockP E p) s2).1 = bs := ⟨_, rfl⟩
 have HV3 := Lib.hid hv3
 have HR := Lib.hid (show parP E p s = (It.mk 5 [] [] [] [] 0 (b :: bs), s3) by subst hs1; subst hv1; subst hs2; subst hs3; subst hv3; rfl)
 rw [HR.out]
 have hmf := makeFunc_run
 have h20 : s2.r.length ≤ s.r.length := by rw [← hs2, ← hs1]; exact Nat.le_trans (expectP_dec _ _) (blockP_dec hp _)
 have hlb := sepP_len (E := E) (mark := [97, 110, 100]) (rd := blockP E p) (blockP_dec hp) s2
 rw [hv3] at hlb
 have hsl := h.small.len
 have HLB := Lib.hid (show bs.length ≤ 8001 by omega)
 have HB0 := Lib.hid (show 0 < bs.length by rw [← hv3]; unfold sepP; simp)
 have HN := Lib.hid hn
 have HN2 := Lib.hid (show s2.r.length < n by omega)
 have HI2 := Lib.hid HI
 have HPD := Lib.hid hp
 have H := Lib.hid h
 have hlt := h.lt
 have HO := Lib.hid (Only.refl g w)
 clear h hs1 hv1 hs2 hs3 hv3 hn h20 hlb hsl HI hp
 go_enter Tryz.func229, Tryz.ntmps229
 have P1' : Hid (Prs ((w).alloc (.cells #[.int .i64 0, .string ⟨#[]⟩, .slice none 0 0, .string ⟨#[]⟩, .string ⟨#[]⟩, .int .i64 0, .slice none 0 0] 70)) g E _) := H.out.alloc _
 have O1' : Hid (Only g w ((w).alloc (.cells #[.int .i64 0, .string ⟨#[]⟩, .slice none 0 0, .string ⟨#[]⟩, .string ⟨#[]⟩, .int .i64 0, .slice none 0 0] 70))) := HO.out.alloc _
 have Br_1 : Hid (Bx ((w).alloc (.cells #[.int .i64 0, .string ⟨#[]⟩, .slice none 0 0, .string ⟨#[]⟩, .string ⟨#[]⟩, .int .i64 0, .slice none 0 0] 70)) (w.heap.size) 70 #[.int .i64 0, .string ⟨#[]⟩, .slice none 0 0, .string ⟨#[]⟩, .string ⟨#[]⟩, .int .i64 0, .slice none 0 0]) := Bx.new2 (rfl)
 go_wp2_with fail
 refine (pblock_any HI2.out P1'.out HN.out).mono ?_; rintro e w2 ⟨v, rfl, LV, P2, O2⟩
 obtain ⟨AB, nB, cB, rfl, -⟩ := LV.slc
 rw [HV1.out] at LV
 rw [HS1.out] at P2
 have LB_2 := Lib.hid (show Lies w2 (fun k => w.heap.size + 1 ≤ k) (.slice AB nB cB) (dB b) from by have := LV; simp only [size_alloc] at this; exact this)
 have P2' := Lib.hid P2
 have O2' := Lib.hid (O1'.out.trans O2)
 have Br_2 := Lib.hid (Br_1.out.only O2 (by omega))
 have hz2 : w.heap.size + 1 ≤ w2.heap.size := by have := O2.size; simp only [size_alloc] at this; exact this
 clear P2 O2 LV
 go_wp2_with fail
 refine (pexpect_any P2'.out [97, 110, 100]).mono ?_; rintro e w3 ⟨rfl, P3, O3⟩
 rw [HS2.out] at P3
 have P3' := Lib.hid P3
 have O3' := Lib.hid (O2'.out.trans O3)
 have Br_3 := Lib.hid (Br_2.out.only O3 (by omega))
 have LB_3 := Lib.hid (LB_2.out.only O3 (by omega))
 have hz3 : w2.heap.size ≤ w3.heap.size := O3.size
 clear P3 O3
 go_wp2_with fail
 refine ((sepBlock_any _ (blockP_dec HPD.out) (block_rd HI2.out s2.r.length HN2.out) [97, 110, 100] P3'.out (Nat.le_refl _) P3'.out.small.len).mono (fun _ _ h => GotB.toD h)).mono ?_; rintro e w4 ⟨v, rfl, LV, P4, O4⟩
 obtain ⟨AC, nC, cC, rfl, -⟩ := LV.slc
 rw [HV3.out] at LV
 rw [HS3.out] at P4
 have LC_4 := Lib.hid (show Lies w4 (fun k => w3.heap.size ≤ k) (.slice AC nC cC) (.s 1 (bs.flatMap fun x => [dB x])) from LV)
 have P4' := Lib.hid P4
 have O4' := Lib.hid (O3'.out.trans O4)
 have Br_4 := Lib.hid (Br_3.out.only O4 (by omega))
 have LB_4 := Lib.hid (LB_3.out.only O4 (by omega))
 have hz4 : w3.heap.size ≤ w4.heap.size := O4.size
 clear P4 O4 LV
 have hzw : w.heap.size + 1 ≤ w4.heap.size := by omega
 have BL := Lib.hid (Bld.lit w4 57 #[.slice AB nB cB] [dB b] 1 rfl (LiesL.cons (LB_4.out.from (by omega : w.heap.size + 1 ≤ w.heap.size + 1)) (LiesL.nil _ _)) hzw)
 have LC2 := Lib.hid (show Lies (w4.alloc (.cells #[.slice AB nB cB] 57)) (fun k => w.heap.size + 1 ≤ k ∧ (Value.slice (some ⟨w4.heap.size, 0, none⟩) 1 1).ownBlock ≠ some k) (.slice AC nC cC) (.s 1 (bs.flatMap fun x => [dB x])) from (LC_4.out.mono (T := fun k => w.heap.size + 1 ≤ k ∧ (Value.slice (some ⟨w4.heap.size, 0, none⟩) 1 1).ownBlock ≠ some k) fun k hk hS => ⟨by omega, by simp [Value.ownBlock]; omega⟩).belowT ((Below.refl _ _).alloc (Nat.le_refl _) _))
 have hlen : (bs.flatMap fun x => [dB x]).length = bs.length := by rw [fm1, List.length_map]
 have hr : (1 + (bs.flatMap fun x => [dB x]).length) * 24 ≤ 140737488355328 := by rw [hlen]; have := HLB.out; omega
 have hm0 : 0 < (bs.flatMap fun x => [dB x]).length := by rw [hlen]; exact HB0.out
 have HRR := Lib.hid hr
 have HMM := Lib.hid hm0
 clear hr hm0 hlen
 have hzw2 : w.heap.size + 1 ≤ (w4.alloc (.cells #[.slice AB nB cB] 57)).heap.size := by rw [size_alloc]; omega
 go_wp2_with (at_builtin; refine appS rfl _ _ 68 rfl 57 _ 1 24 info_Block rfl (by decide) Tryz.underlying68 (w.heap.size + 1) (.slice (some ⟨w4.heap.size, 0, none⟩) 1 1) 1 _ _ rfl BL.out _ rfl LC2.out HMM.out HRR.out hzw2 (by decide) ?_; intro gg cap m w20 hmm DB hgr; have DB2 := Lib.hid DB; have BB := Lib.hid (grown_below BL.out hgr hzw2); clear DB hgr hmm; have OF := Lib.hid (Only.to (O4'.out.alloc _) (BB.out.mono (by omega))); have PF := Lib.hid ((P4'.out.alloc _).below BB.out (by omega)); have RF := Lib.hid (show Bx w20 _ _ _ from (BB.out.block _ (by omega)).trans (Br_4.out.alloc _)); have k0 := RF.out.cell 0; have k1 := RF.out.cell 1; have k2 := RF.out.cell 2; have k3 := RF.out.cell 3; have k4 := RF.out.cell 4; have k5 := RF.out.cell 5; have k6 := RF.out.cell 6; have f0 := RF.out.free 0; have f1 := RF.out.free 1; have f2 := RF.out.free 2; have f3 := RF.out.free 3; have f4 := RF.out.free 4; have f5 := RF.out.free 5; have f6 := RF.out.free 6)
 have hz20 : w.heap.size + 1 ≤ w20.heap.size := by have := RF.out.lt; omega
 have LF := Lib.hid (show Lies w20 (fun k => w.heap.size + 1 ≤ k) (.slice (some ⟨gg, 0, none⟩) (1 + m) cap) (.s 1 (dBl (b :: bs))) by rw [dBl_map]; exact DB2.out.lies)
 have P5' := Lib.hid (PF.out.own (b := w.heap.size) (by omega) 0 (.int .i64 5))
 have O5' := Lib.hid (OF.out.own (b := w.heap.size) (by omega) 0 (.int .i64 5))
 have Br_5 : Hid (Bx _ _ _ #[.int .i64 5, .string ⟨#[]⟩, .slice none 0 0, .string ⟨#[]⟩, .string ⟨#[]⟩, .int .i64 0, .slice none 0 0]) := RF.out.set 0 (.int .i64 5)
 have LF_5 := Lib.hid (LF.out.set (b := w.heap.size) (i := 0) (u := .int .i64 5) (by omega))
 have P6' := Lib.hid (P5'.out.own (b := w.heap.size) (by omega) 1 (.string ⟨#[]⟩))
 have O6' := Lib.hid (O5'.out.own (b := w.heap.size) (by omega) 1 (.string ⟨#[]⟩))
 have Br_6 : Hid (Bx _ _ _ #[.int .i64 5, .string ⟨#[]⟩, .slice none 0 0, .string ⟨#[]⟩, .string ⟨#[]⟩, .int .i64 0, .slice none 0 0]) := Br_5.out.set 1 (.string ⟨#[]⟩)
 have LF_6 := Lib.hid (LF_5.out.set (b := w.heap.size) (i := 1) (u := .string ⟨#[]⟩) (by omega))
 have P7' := Lib.hid (P6'.out.own (b := w.heap.size) (by omega) 2 (.slice none 0 0))
 have O7' := Lib.hid (O6'.out.own (b := w.heap.size) (by omega) 2 (.slice none 0 0))
 have Br_7 : Hid (Bx _ _ _ #[.int .i64 5, .string ⟨#[]⟩, .slice none 0 0, .string ⟨#[]⟩, .string ⟨#[]⟩, .int .i64 0, .slice none 0 0]) := Br_6.out.set 2 (.slice none 0 0)
 have LF_7 := Lib.hid (LF_6.out.set (b := w.heap.size) (i := 2) (u := .slice none 0 0) (by omega))
 have P8' := Lib.hid (P7'.out.own (b := w.heap.size) (by omega) 3 (.string ⟨#[]⟩))
 have O8' := Lib.hid (O7'.out.own (b := w.heap.size) (by omega) 3 (.string ⟨#[]⟩))
 have Br_8 : Hid (Bx _ _ _ #[.int .i64 5, .string ⟨#[]⟩, .slice none 0 0, .string ⟨#[]⟩, .string ⟨#[]⟩, .int .i64 0, .slice none 0 0]) := Br_7.out.set 3 (.string ⟨#[]⟩)
 have LF_8 := Lib.hid (LF_7.out.set (b := w.heap.size) (i := 3) (u := .string ⟨#[]⟩) (by omega))
 have P9' := Lib.hid (P8'.out.own (b := w.heap.size) (by omega) 4 (.string ⟨#[]⟩))
 have O9' := Lib.hid (O8'.out.own (b := w.heap.size) (by omega) 4 (.string ⟨#[]⟩))
 have Br_9 : Hid (Bx _ _ _ #[.int .i64 5, .string ⟨#[]⟩, .slice none 0 0, .string ⟨#[]⟩, .string ⟨#[]⟩, .int .i64 0, .slice none 0 0]) := Br_8.out.set 4 (.string ⟨#[]⟩)
 have LF_9 := Lib.hid (LF_8.out.set (b := w.heap.size) (i := 4) (u := .string ⟨#[]⟩) (by omega))
 have P10' := Lib.hid (P9'.out.own (b := w.heap.size) (by omega) 5 (.int .i64 0))
 have O10' := Lib.hid (O9'.out.own (b := w.heap.size) (by omega) 5 (.int .i64 0))
 have Br_10 : Hid (Bx _ _ _ #[.int .i64 5, .string ⟨#[]⟩, .slice none 0 0, .string ⟨#[]⟩, .string ⟨#[]⟩, .int .i64 0, .slice none 0 0]) := Br_9.out.set 5 (.int .i64 0)
 have LF_10 := Lib.hid (LF_9.out.set (b := w.heap.size) (i := 5) (u := .int .i64 0) (by omega))
 have P11' := Lib.hid (P10'.out.own (b := w.heap.size) (by omega) 6 (.slice (some ⟨gg, 0, none⟩) (1 + m) cap))
 have O11' := Lib.hid (O10'.out.own (b := w.heap.size) (by omega) 6 (.slice (some ⟨gg, 0, none⟩) (1 + m) cap))
 have Br_11 : Hid (Bx _ _ _ #[.int .i64 5, .string ⟨#[]⟩, .slice none 0 0, .string ⟨#[]⟩, .string ⟨#[]⟩, .int .i64 0, .slice (some ⟨gg, 0, none⟩) (1 + m) cap]) := Br_10.out.set 6 (.slice (some ⟨gg, 0, none⟩) (1 + m) cap)
 have LF_11 := Lib.hid (LF_10.out.set (b := w.heap.size) (i := 6) (u := .slice (some ⟨gg, 0, none⟩) (1 + m) cap) (by omega))
 refine bodyPost_ret (v := .agg #[.int .i64 5, .string ⟨#[]⟩, .slice none 0 0, .string ⟨#[]⟩, .string ⟨#[]⟩, .int .i64 0, .slice (some ⟨gg, 0, none⟩) (1 + m) cap]) (bx_ret Br_11.out Tryz.results229 _ rfl Tryz.underlying70 rfl (by kernel_rfl)) rfl ?_
 exact ⟨_, rfl, (LiesL.cons (.c _ rfl) (LiesL.cons (.c _ rfl) (LiesL.cons (.nil _) (LiesL.cons (.c _ rfl) (LiesL.cons (.c _ rfl) (LiesL.cons (.c _ rfl) (LiesL.cons (LF_11.out.from (by omega)) (LiesL.nil _ _)))))))), P11'.out, O11'.out⟩
end
/- Layer 10: rows of a call's own whose elements lie in memory that was handed in (below N), or in new memory (from B on). -/
open Go.RowKit

def Nw (N B : Nat) (k : Nat) : Prop := k < N ∨ B ≤ k
def Blo (N : Nat) (w : World) (B e z : Nat) (v : Value) (n : Nat) (l : List D) : Prop :=
 ∃ us, w.ownsRow B e z v n us ∧ LiesL w (fun k => Nw N B k ∧ v.ownBlock ≠ some k) us l
section
variable {w w' : World} {N B e z n : Nat} {v : Value} {l : List D}
theorem Blo.nil (N : Nat) (w : World) (B e z : Nat) : Blo N w B e z (.slice none 0 0) 0 [] := ⟨[], World.ownsRow_nil _ _ _ _, LiesL.nil _ _⟩
theorem Blo.below (h : Blo N w B e z v n l) (hb : Below w.heap.size w w') : Blo N w' B e z v n l := by
 obtain ⟨us, h1, h2⟩ := h
 exact ⟨us, own_keepB h1 fun a ha _ => hb.block a ha, h2.keep hb.size fun k hk _ => hb.block k hk⟩
theorem Blo.lt (h : Blo N w B e z v n l) {b : Nat} (hb : v.ownBlock = some b) : b < w.heap.size := by
 obtain ⟨us, h1, _⟩ := h
 rcases h1.2 with ⟨rfl, _⟩ | ⟨g, cap, cur, rfl, _, hh, _⟩
 ·cases hb
 ·cases hb; exact lt_of_some hh
theorem Blo.ge (h : Blo N w B e z v n l) {b : Nat} (hb : v.ownBlock = some b) : B ≤ b := by
 obtain ⟨us, h1, _⟩ := h
 rcases h1.2 with ⟨rfl, _⟩ | ⟨g, cap, cur, rfl, hg, hh, _⟩
 ·cases hb
 ·cases hb; exact hg
theorem Blo.shape (h : Blo N w B e z v n l) : ∃ A c, v = .slice A n c := by
 obtain ⟨us, h1, _⟩ := h
 rcases h1.2 with ⟨rfl, rfl⟩ | ⟨g, cap, cur, rfl, hg, hh, _⟩
 ·exact ⟨_, _, rfl⟩
 ·exact ⟨_, _, rfl⟩
theorem Blo.len (h : Blo N w B e z v n l) : l.length = n * z := by
 obtain ⟨us, h1, h2⟩ := h
 rw [← h2.1]; exact h1.1
theorem Blo.lies (h : Blo N w B e z v n l) : Lies w (Nw N B) v (.s z l) := by
 obtain ⟨us, h1, h2⟩ := h
 have hcl := @World.ownsRow.cells _ _ _ _ _ _ _ h1
 rcases h1.2 with ⟨rfl, rfl⟩ | ⟨g, cap, cur, rfl, hb, hh, hc, _⟩
 ·have : l = [] := List.eq_nil_of_length_eq_zero (by rw [← h2.1, h1.1]; simp)
  subst this; exact .nil z
 ·exact .sl g 0 n cap z us l (.inr hb) (Pl.z ⟨cur, e, hh⟩ z) h2.1 (by rw [← h2.1, h1.1]) hc (fun i u hu => by have := hcl (g := g) rfl i u hu; rw [show (⟨g, 0, none⟩ : Addr).add i = ⟨g, 0 + i, none⟩ by unfold Addr.add; split <;> simp_all] at this; exact this) (fun i u d hu hd => (h2.2 i u d hu hd).mono fun k _ hS => hS.1)
theorem Blo.grown (h : Blo N w B e z v n l) (hgr : w.grownBy w' v.ownBlock) (hB : B ≤ w.heap.size) : Below B w w' :=
 ⟨hgr.os, hgr.tape, hgr.output, hgr.size, fun k hk => hgr.block k (by omega) fun hv => by have := h.ge hv.symm; omega⟩
end
/-- append(s, c) of one element of z cells. -/
theorem appO {P : Program} {w : World} {ops : Array Oper} {rest : List Oper} {o : Oper} {a : Act} {Q : Exit → Act → World → Prop} (hgd : o.guard = none) (s x : Operand) (t : TypeId)
  (ho : o.op = .call { callee := .builtin .append, args := #[s, x], argTypes := #[t, t] })
  (e : TypeId) (zv : Value) (z by_ : Nat) (hinfo : (P.info? e).map (fun i => (i.zero, i.size, i.bytes)) = some (some zv, z, by_)) (hzs : zv.cells.size = z) (hz : 0 < z) (ht : P.underlying t = some (.slice e))
  (N B : Nat) (v : Value) (n : Nat) (l : List D) (hs : a.eval s = v) (hown : Blo N w B e z v n l) (cs : Array Value) (ds : List D) (hcs : cs.size = z) (hx : a.eval x = .slice (some ⟨w.heap.size, 0, none⟩) 1 1)
  (h1 : LiesL w (fun k => Nw N B k ∧ v.ownBlock ≠ some k) cs.toList ds)
  (hr : (n + 1) * by_ ≤ 140737488355328) (hB : B ≤ w.heap.size) (hby : 0 < by_)
  (h : ∀ v' w', Blo N w' B e z v' (n + 1) (l ++ ds) → w.grownBy w' v.ownBlock → wpList P ops Q rest (a.put o.dst v') w') : wpList P ops Q (o :: rest) a (w.alloc (.cells cs e)) := by
 obtain ⟨us, ho1, ho2⟩ := hown
 refine appZ hgd s x t ho e zv z by_ hinfo hzs hz ht B v n us hs ho1 cs hcs hx h1.one hr (Nat.le_trans (Nat.le_mul_of_pos_right _ hby) hr) hB ?_
 intro v' w' hown' hgr hfr
 refine h v' w' ⟨us ++ cs.toList, hown', ?_⟩ hgr
 obtain ⟨b, hb, hbb⟩ := hfr
 refine LiesL.mono (S := fun k => k < w.heap.size ∧ Nw N B k ∧ v.ownBlock ≠ some k) ?_ (LiesL.keep (w := w) hgr.size ?_ ((ho2.append h1).mono fun k hk hS => ⟨hk, hS⟩))
 ·intro k _ hS
  refine ⟨hS.2.1, fun hk => ?_⟩
  rw [hb] at hk
  cases hk
  rcases hbb with hbb | hbb
  ·exact hS.2.2 hbb
  ·omega
 ·intro k hk hS
  exact hgr.block k hk (fun e => hS.2.2 e.symm)
/-- 'x.f = append(x.f, read(v))' through a box, in any order: what holds between the operations. -/
structure OwI (wi : World) (N x T k : Nat) (cx : Array Value) (u : Value) (e n : Nat) (l : List D) (bv : Value) (d : D) (L : Nat → Bool) (vs : Nat → Value) (w : World) : Prop where
 p0 : L 0 = true → vs 0 = .pointer (some ⟨x, k, none⟩)
 p1 : L 1 = true → vs 1 = u
 p2 : L 2 = true → vs 2 = bv
 p6 : L 6 = true → vs 6 = .pointer (some ⟨x, k, none⟩)
 bel : Below x wi w
 bX : Bx w x T (if L 7 = true then cx.setIfInBounds k (vs 5) else cx)
 row : L 5 = false → Blo N w (x + 1) e 1 u n l
 val : L 3 = true → L 4 = false → ∃ A m c, vs 3 = .slice A m c ∧ Lies w (fun k => Nw N (x + 1) k ∧ u.ownBlock ≠ some k) (vs 3) d
 blk : L 4 = true → L 5 = false → ∃ (b : Nat) (v : Value), vs 4 = .slice (some ⟨b, 0, none⟩) 1 1 ∧ w.heap[b]? = some (.cells #[v] e (0, 0)) ∧ x + 1 ≤ b ∧ u.ownBlock ≠ some b ∧ Lies w (fun k => Nw N (x + 1) k ∧ u.ownBlock ≠ some k) v d
 don : L 5 = true → ∃ h cap, vs 5 = .slice (some ⟨h, 0, none⟩) (n + 1) cap ∧ Blo N w (x + 1) e 1 (vs 5) (n + 1) (l ++ [d])
 sz : x + 1 ≤ w.heap.size
section
variable {wi w w' : World} {N x T k e n : Nat} {cx : Array Value} {u bv : Value} {l : List D} {d : D} {L : Nat → Bool} {vs : Nat → Value}
theorem OwI.start (hX : Bx wi x T cx) (hb : Blo N wi (x + 1) e 1 u n l) : OwI wi N x T k cx u e n l bv d (fun _ => false) vs wi.drew :=
 ⟨nopeB rfl, nopeB rfl, nopeB rfl, nopeB rfl, (Below.refl _ _).drew, hX, fun _ => hb.below (Below.refl _ _).drew, nopeB rfl, nopeB rfl, nopeB rfl, hX.lt⟩
theorem OwI.t0 (hI : OwI wi N x T k cx u e n l bv d L vs w) : OwI wi N x T k cx u e n l bv d (updB L 0) (updV vs 0 (.pointer (some ⟨x, k, none⟩))) w :=
 ⟨fun _ => rfl, hI.p1, hI.p2, hI.p6, hI.bel, hI.bX, hI.row, hI.val, hI.blk, hI.don, hI.sz⟩
theorem OwI.t1 (hI : OwI wi N x T k cx u e n l bv d L vs w) : OwI wi N x T k cx u e n l bv d (updB L 1) (updV vs 1 u) w :=
 ⟨hI.p0, fun _ => rfl, hI.p2, hI.p6, hI.bel, hI.bX, hI.row, hI.val, hI.blk, hI.don, hI.sz⟩
theorem OwI.t2 (hI : OwI wi N x T k cx u e n l bv d L vs w) : OwI wi N x T k cx u e n l bv d (updB L 2) (updV vs 2 bv) w :=
 ⟨hI.p0, hI.p1, fun _ => rfl, hI.p6, hI.bel, hI.bX, hI.row, hI.val, hI.blk, hI.don, hI.sz⟩
theorem OwI.t6 (hI : OwI wi N x T k cx u e n l bv d L vs w) : OwI wi N x T k cx u e n l bv d (updB L 6) (updV vs 6 (.pointer (some ⟨x, k, none⟩))) w :=
 ⟨hI.p0, hI.p1, hI.p2, fun _ => rfl, hI.bel, hI.bX, hI.row, hI.val, hI.blk, hI.don, hI.sz⟩
theorem OwI.t3 (hI : OwI wi N x T k cx u e n l bv d L vs w) (h4 : L 4 = false) (h5 : L 5 = false) (h7 : L 7 = false) (hN : N ≤ x) {A : Option Addr} {m c : Nat} (hl : Lies w' (Nw N w.heap.size) (.slice A m c) d) (hb : Below w.heap.size w w') :
  OwI wi N x T k cx u e n l bv d (updB L 3) (updV vs 3 (.slice A m c)) w' :=
 have hrow := hI.row h5
 have hz := hI.sz
 ⟨hI.p0, hI.p1, hI.p2, hI.p6, hI.bel.trans (hb.mono (by omega)), by
  show Bx w' x T (if L 7 = true then _ else _)
  have := hI.bX
  rw [h7] at this ⊢
  exact this.below hb, fun _ => hrow.below hb, fun _ _ => ⟨A, m, c, rfl, hl.mono fun k hk hS => ⟨hS.elim .inl fun h => .inr (by omega), fun eq => by
   have h1 := hrow.lt eq
   have h2 := hrow.ge eq
   rcases hS with h | h <;> omega⟩⟩, fun h _ => nopeB h4 h, fun h => nopeB h5 h, Nat.le_trans hI.sz hb.size⟩
theorem OwI.t4 (hI : OwI wi N x T k cx u e n l bv d L vs w) (h5 : L 5 = false) (h7 : L 7 = false) {v : Value} (hl : Lies w (fun k => Nw N (x + 1) k ∧ u.ownBlock ≠ some k) v d) :
  OwI wi N x T k cx u e n l bv d (updB L 4) (updV vs 4 (.slice (some ⟨w.heap.size, 0, none⟩) 1 1)) (w.alloc (.cells #[v] e)) :=
 have hrow := hI.row h5
 have hb : Below w.heap.size w (w.alloc (.cells #[v] e)) := (Below.refl _ _).alloc (Nat.le_refl _) _
 have hz := hI.sz
 ⟨hI.p0, hI.p1, hI.p2, hI.p6, hI.bel.trans (hb.mono (by omega)), by
  show Bx _ x T (if L 7 = true then _ else _)
  have := hI.bX
  rw [h7] at this ⊢
  exact this.alloc _, fun _ => hrow.below hb, fun _ h => nopeT h,
  fun _ _ => ⟨w.heap.size, v, rfl, heap_alloc_new w _, hI.sz, fun eq => by have := hrow.lt eq; omega, hl.belowT hb⟩, fun h => nopeB h5 h, Nat.le_trans hI.sz (by simp)⟩
theorem OwI.t7 (hI : OwI wi N x T k cx u e n l bv d L vs w) (h4 : L 4 = true) (h5 : L 5 = true) (h7 : L 7 = false) (hN : N ≤ x) :
  OwI wi N x T k cx u e n l bv d (updB L 7) (updV vs 7 undef) (w.setCell ⟨x, k, none⟩ (vs 5)) :=
 have hoth : ∀ j, j < w.heap.size → j ≠ x → (w.setCell ⟨x, k, none⟩ (vs 5)).heap[j]? = w.heap[j]? := fun j _ hj => Below.heap_setCell _ _ _ _ (by show j ≠ x; exact hj)
 ⟨hI.p0, hI.p1, hI.p2, hI.p6, hI.bel.trans ⟨rfl, rfl, rfl, by simp [World.setCell], fun j hj => hoth j (by have := hI.sz; omega) (by omega)⟩, by
  have := hI.bX
  rw [h7] at this
  exact this.set k (vs 5), fun h => nopeB h h5, fun _ h => nopeB h h4, fun _ h => nopeB h h5, fun _ => by
  obtain ⟨h, cap, h1, us, h2, h3⟩ := hI.don h5
  refine ⟨h, cap, h1, us, own_keepB h2 fun a ha hxa => hoth a ha (by omega), h3.keep (by simp [World.setCell]) fun j hj hS => hoth j hj fun e => ?_⟩
  rcases hS.1 with h | h <;> omega, by simpa [World.setCell] using hI.sz⟩
theorem OwI.fin (hI : OwI wi N x T k cx u e n l bv d L vs w) (h : ∀ i, i < 8 → L i = true) : Below x wi w ∧ ∃ h cap, vs 5 = .slice (some ⟨h, 0, none⟩) (n + 1) cap ∧ Bx w x T (cx.setIfInBounds k (vs 5)) ∧ Blo N w (x + 1) e 1 (vs 5) (n + 1) (l ++ [d]) := by
 obtain ⟨hh, cap, h5, h6⟩ := hI.don (h 5 (by decide))
 have hx := hI.bX
 rw [if_pos (h 7 (by decide))] at hx
 exact ⟨hI.bel, hh, cap, h5, hx, h6⟩
/-- The append. -/
theorem ostepI_push {P : Program} {ops : Array Oper} {Q : Exit → Act → World → Prop} {o : Oper} {a : Act} {s q : Nat} {t : TypeId} {zv : Value} {by_ : Nat} (hI : OwI wi N x T k cx u e n l bv d L vs w)
  (hu : P.underlying t = some (.slice e)) (hinfo : (P.info? e).map (fun i => (i.zero, i.size, i.bytes)) = some (some zv, 1, by_)) (hzs : zv.cells.size = 1) (hg : o.guard = none)
  (ho : o.op = .call { callee := .builtin .append, args := #[.tmp s, .tmp q], argTypes := #[t, t] }) (hs : a.tmps[s]?.getD undef = u) (hq : a.tmps[q]?.getD undef = vs 4)
  (h4 : L 4 = true) (h5 : L 5 = false) (h7 : L 7 = false) (hby : (n + 1) * by_ ≤ 140737488355328) (hb0 : 0 < by_) :
  StepI P ops Q (OwI wi N x T k cx u e n l bv d) L vs 5 o a w := by
 obtain ⟨i0, hi, hy0, hy1, hy2⟩ := info_parts hinfo
 have hrow := hI.row h5
 obtain ⟨us, ho1, ho2⟩ := hrow
 obtain ⟨b, v, hv4, hb, hBb, hub, hlies⟩ := hI.blk h4 h5
 have hlL : LiesL w (fun k => Nw N (x + 1) k ∧ u.ownBlock ≠ some k) [v] [d] := LiesL.cons hlies (LiesL.nil _ _)
 have hn1 : n + 1 ≤ 140737488355328 := Nat.le_trans (Nat.le_mul_of_pos_right _ hb0) hby
 refine stepI_on (by simp [Region.wanted, hg]) (wp_append_lies w (.tmp s) (.tmp q) t ho (x + 1) e i0 _ 1 by_ hu hi hy0 hy1 hy2 hzs (by decide) u n us (by simp [Act.eval, hs]) ho1 ⟨b, 0, none⟩ 1 1 [v] (by simp [Act.eval, hq, hv4]) (by simp) ?_ hlL.one (by omega) (by unfold maxLen; omega) hby hI.sz w.heap.size rfl ?_)
 ·intro j v' hj
  have e' : (⟨b, 0, none⟩ : Addr).add j = ⟨b, j, none⟩ := by unfold Addr.add; split <;> simp_all
  rw [e', cell_of_row _ b j _ _ _ hb, ← Array.getElem?_toList]
  exact hj
 ·intro g2 cap w3 hown hgr hfr hlt
  have hbel : Below (x + 1) w w3 := Blo.grown (N := N) (l := l) ⟨us, ho1, ho2⟩ hgr hI.sz
  refine ⟨_, rfl, hI.p0, hI.p1, hI.p2, hI.p6, hI.bel.trans (hbel.mono (by omega)), ?_, nopeT, fun _ h => nopeB h h4, fun _ => nopeT, fun _ => ⟨g2, cap, rfl, us ++ [v], hown, ?_⟩, Nat.le_trans hI.sz hgr.size⟩
  ·show Bx w3 x T (if L 7 = true then _ else _)
   have := hI.bX
   rw [h7] at this ⊢
   exact (hbel.block x (by omega)).trans this
  ·refine LiesL.mono (S := fun k => k < w.heap.size ∧ Nw N (x + 1) k ∧ u.ownBlock ≠ some k) ?_ (LiesL.keep (w := w) hgr.size ?_ ((ho2.append hlL).mono fun k hk hS => ⟨hk, hS⟩))
   ·intro k _ hS
    refine ⟨hS.2.1, fun hk => ?_⟩
    have hk' : g2 = k := by simpa [updV_self, Value.ownBlock] using hk
    subst hk'
    rcases hfr with hfr | hfr
    ·exact hS.2.2 hfr
    ·omega
   ·intro k hk hS
    exact hgr.block k hk (fun eq => hS.2.2 eq.symm)
end
/- Layer 10: the contracts of within, isElse. -/
open Go.RowKit

section
variable {w w' : World}
set_option maxHeartbeats 1000000 in
theorem within_any (h : Tb w) (k tk : Int) (fr nm al : Bs) (to bl : Value) (h0 : 0 ≤ tk) (h1 : tk ≤ 999999) :
  Calls Tryz.prog 238 #[.agg #[.int .i64 k, .string (ofL fr), to, .string (ofL nm), .string (ofL al), .int .i64 tk, bl]] w (Tells w (.string (ofL (withinB tk)))) := by
 have B1 := Lib.hid ((Below.refl _ w).alloc (Nat.le_refl _) (.cells #[.int .i64 k, .string (ofL fr), to, .string (ofL nm), .string (ofL al), .int .i64 tk, bl] 70))
 have HTB := Lib.hid (Tb.below (w' := (w.alloc (.cells #[.int .i64 k, .string (ofL fr), to, .string (ofL nm), .string (ofL al), .int .i64 tk, bl] 70))) h B1.out)
 clear h
 by_cases h2 : tk = 0
 ·have e1 : (tk == 0) = true := by simpa using h2
  have HS := Lib.hid (show withinB tk = [] by unfold withinB; rw [if_pos h2])
  clear h2
  go_enter Tryz.func238, Tryz.ntmps238
  go_wp2_with fail
  go_ret
  exact ⟨by rw [HS.out]; rfl, B1.out⟩
 ·have e1 : (tk == 0) = false := by simpa using h2
  have HS := Lib.hid (show withinB tk = [32, 119, 105, 116, 104, 105, 110, 32] ++ itoaB tk by unfold withinB; rw [if_neg h2])
  clear h2
  go_enter Tryz.func238, Tryz.ntmps238
  go_wp2_with fail
  refine (itoa_any HTB.out tk (by omega) (by omega)).mono ?_; rintro e w1 ⟨rfl, hb⟩
  have HB := Lib.hid (B1.out.trans (hb.mono (by simp)))
  have hz : (ofL (itoaB tk)).size ≤ 100 := by rw [ofL_size]; exact itoa_len tk (by omega) (by omega)
  clear hb
  go_wp2_with fail
  go_ret
  exact ⟨by rw [HS.out, ← ofL_append]; rfl, HB.out⟩
set_option maxHeartbeats 1000000 in
theorem isElse_any (k tk : Int) (fr nm al : Bs) (to : Value) (A : Option Addr) (n c i : Nat) (hn : n ≤ 1000000) :
  Calls Tryz.prog 252 #[.agg #[.int .i64 k, .string (ofL fr), to, .string (ofL nm), .string (ofL al), .int .i64 tk, .slice A n c], .int .i64 (i : Int)] w (Tells w (.bool (decide (0 < tk) && decide (i + 1 = n)))) := by
 have B1 := Lib.hid ((Below.refl _ w).alloc (Nat.le_refl _) (.cells #[.int .i64 k, .string (ofL fr), to, .string (ofL nm), .string (ofL al), .int .i64 tk, .slice A n c] 70))
 by_cases h1 : 0 < tk
 ·have hw : wrap64 ((n : Int) - 1) = (n : Int) - 1 := by unfold wrap64; omega
  go_enter Tryz.func252, Tryz.ntmps252
  go_wp2_with fail
  go_ret
  refine ⟨?_, B1.out⟩
  have e : ((i : Int) == (n : Int) - 1) = (decide (0 < tk) && decide (i + 1 = n)) := by rw [Bool.eq_iff_iff]; simp; omega
  first | exact congrArg (fun b => Ending.returned (.bool b)) e | (rw [← e]; rfl) | (simp; omega)
 ·have E := Lib.hid (show (decide (0 < tk) && decide (i + 1 = n)) = false by simp; omega)
  go_enter Tryz.func252, Tryz.ntmps252
  go_wp2_with fail
  go_ret
  exact ⟨by rw [E.out]; rfl, B1.out⟩
end
/- Layer 10: what Valid asks: the contracts of isFrom, isConst, leastBlocks; the plain words of what is valid. -/
open Go.RowKit

def frB (n lo hi : Int) : Bool := decide (lo ≤ n) && decide (n ≤ hi)
def cnB (n : Int) : Bool := frB n (-999999) 999999
section
variable {w w' : World}
set_option maxHeartbeats 1000000 in
theorem isFrom_any (n lo hi : Int) : Calls Tryz.prog 87 #[.int .i64 n, .int .i64 lo, .int .i64 hi] w (BoolIs (frB n lo hi) w) := by
 by_cases h1 : lo ≤ n
 ·go_enter Tryz.func87, Tryz.ntmps87
  go_wp2_with fail
  go_ret
  refine BoolIs.mk ?_
  unfold frB
  simp [h1]
 ·have H := Lib.hid (show false = frB n lo hi by unfold frB; rw [decide_eq_false h1]; rfl)
  go_enter Tryz.func87, Tryz.ntmps87
  go_wp2_with fail
  go_ret
  exact BoolIs.mk H.out
set_option maxHeartbeats 1000000 in
theorem isConst_any (n : Int) : Calls Tryz.prog 233 #[.int .i64 n] w (BoolIs (cnB n) w) := by
 go_enter Tryz.func233, Tryz.ntmps233
 go_wp2_with fail
 refine (isFrom_any _ _ _).mono ?_; rintro e w2 ⟨rfl, rfl⟩
 go_wp2_with fail
 go_ret
 exact BoolIs.mk rfl
set_option maxHeartbeats 1000000 in
theorem leastBlocks_any (k tk : Int) (fr nm al : Bs) (to bl : Value) :
  Calls Tryz.prog 205 #[.agg #[.int .i64 k, .string (ofL fr), to, .string (ofL nm), .string (ofL al), .int .i64 tk, bl]] w (Tells w (.int .i64 (if 0 < tk then 2 else 1))) := by
 have B1 := Lib.hid ((Below.refl _ w).alloc (Nat.le_refl _) (.cells #[.int .i64 k, .string (ofL fr), to, .string (ofL nm), .string (ofL al), .int .i64 tk, bl] 70))
 by_cases h1 : 0 < tk
 ·rw [if_pos h1]
  go_enter Tryz.func205, Tryz.ntmps205
  go_wp2_with fail
  go_ret
  exact ⟨rfl, B1.out⟩
 ·rw [if_neg h1]
  go_enter Tryz.func205, Tryz.ntmps205
  go_wp2_with fail
  go_ret
  exact ⟨rfl, B1.out⟩
end
/- Layer 10: what Valid asks: the contract of validSort. -/
open Go.RowKit

def vsB (k lo hi : Int) : Bool := if k = 1 then cnB lo && cnB hi else if k = 2 then frB lo 0 999999 && frB hi 0 999999 else false
section
variable {w w' : World}
set_option maxHeartbeats 2000000 in
theorem validSort_any (k lo hi : Int) : Calls Tryz.prog 202 #[.agg #[.int .i64 k, .int .i64 lo, .int .i64 hi]] w (Tells w (.bool (vsB k lo hi))) := by
 have B1 := Lib.hid ((Below.refl _ w).alloc (Nat.le_refl _) (.cells #[.int .i64 k, .int .i64 lo, .int .i64 hi] 156))
 by_cases h1 : k = 1
 ·subst h1
  cases hb : cnB lo with
  | false =>
   have H := Lib.hid (show false = vsB 1 lo hi by unfold vsB; rw [if_pos rfl, hb]; rfl)
   have HB := Lib.hid hb
   clear hb
   go_enter Tryz.func202, Tryz.ntmps202
   go_wp2_with fail
   refine (isConst_any _).mono ?_; rintro e w2 ⟨rfl, rfl⟩; rw [HB.out]
   go_wp2_with fail
   go_ret
   exact ⟨by rw [H.out]; rfl, B1.out⟩
  | true =>
   have H := Lib.hid (show cnB hi = vsB 1 lo hi by unfold vsB; rw [if_pos rfl, hb]; rfl)
   have HB := Lib.hid hb
   clear hb
   go_enter Tryz.func202, Tryz.ntmps202
   go_wp2_with fail
   refine (isConst_any _).mono ?_; rintro e w2 ⟨rfl, rfl⟩; rw [HB.out]
   go_wp2_with fail
   refine (isConst_any _).mono ?_; rintro e w2 ⟨rfl, rfl⟩; rw [H.out]
   go_wp2_with fail
   go_ret
   exact ⟨rfl, B1.out⟩
 ·by_cases h2 : k = 2
  ·subst h2
   cases hb : frB lo 0 999999 with
   | false =>
    have H := Lib.hid (show false = vsB 2 lo hi by unfold vsB; rw [if_neg h1, if_pos rfl, hb]; rfl)
    have HB := Lib.hid hb
    clear hb
    go_enter Tryz.func202, Tryz.ntmps202
    go_wp2_with fail
    refine (isFrom_any _ _ _).mono ?_; rintro e w2 ⟨rfl, rfl⟩; rw [HB.out]
    go_wp2_with fail
    go_ret
    exact ⟨by rw [H.out]; rfl, B1.out⟩
   | true =>
    have H := Lib.hid (show frB hi 0 999999 = vsB 2 lo hi by unfold vsB; rw [if_neg h1, if_pos rfl, hb]; rfl)
    have HB := Lib.hid hb
    clear hb
    go_enter Tryz.func202, Tryz.ntmps202
    go_wp2_with fail
    refine (isFrom_any _ _ _).mono ?_; rintro e w2 ⟨rfl, rfl⟩; rw [HB.out]
    go_wp2_with fail
    refine (isFrom_any _ _ _).mono ?_; rintro e w2 ⟨rfl, rfl⟩; rw [H.out]
    go_wp2_with fail
    go_ret
    exact ⟨rfl, B1.out⟩
  ·have H := Lib.hid (show false = vsB k lo hi by unfold vsB; rw [if_neg h1, if_neg h2])
   go_enter Tryz.func202, Tryz.ntmps202
   go_wp2_with fail
   go_ret
   exact ⟨by rw [H.out]; rfl, B1.out⟩
end
/- Layer 10: what Valid asks: the contract of validField. -/
open Go.RowKit

def vfB (f : Fd) : Bool := wdB f.nm && vsB f.k f.lo f.hi
section
variable {w w' : World}
set_option maxHeartbeats 2000000 in
theorem validField_any (f : Fd) : Calls Tryz.prog 152 #[vF f] w (Tells w (.bool (vfB f))) := by
 obtain ⟨nm, k, lo, hi⟩ := f
 obtain ⟨W0, hW0⟩ : ∃ W0, w.alloc (.cells #[.string (ofL nm), .int .i64 k, .int .i64 lo, .int .i64 hi] 158) = W0 := ⟨_, rfl⟩
 have B1 := Lib.hid (show Below w.heap.size w W0 by rw [← hW0]; exact (Below.refl _ w).alloc (Nat.le_refl _) _)
 have X0 := Lib.hid (show W0.heap[w.heap.size]? = some (.cells #[.string (ofL nm), .int .i64 k, .int .i64 lo, .int .i64 hi] 158 (0, 0)) by rw [← hW0]; exact heap_alloc_new w _)
 have k0 : W0.cell? ⟨w.heap.size, 0, none⟩ = some (.string (ofL nm)) := cell_of_row W0 _ 0 _ _ _ X0.out
 have k1 : W0.cell? ⟨w.heap.size, 1, none⟩ = some (.int .i64 k) := cell_of_row W0 _ 1 _ _ _ X0.out
 have k2 : W0.cell? ⟨w.heap.size, 2, none⟩ = some (.int .i64 lo) := cell_of_row W0 _ 2 _ _ _ X0.out
 have k3 : W0.cell? ⟨w.heap.size, 3, none⟩ = some (.int .i64 hi) := cell_of_row W0 _ 3 _ _ _ X0.out
 cases hb : wdB nm with
 | false =>
  have H := Lib.hid (show false = vfB ⟨nm, k, lo, hi⟩ by unfold vfB; rw [hb]; rfl)
  have HB := Lib.hid hb
  clear hb
  unfold vF
  go_enter Tryz.func152, Tryz.ntmps152
  go_wp2_with fail
  refine (isWord_any _ _).mono ?_; rintro e w2 ⟨rfl, rfl⟩; rw [HB.out]
  go_wp2_with fail
  go_ret
  exact ⟨by rw [H.out]; rfl, B1.out⟩
 | true =>
  have H := Lib.hid (show vsB k lo hi = vfB ⟨nm, k, lo, hi⟩ by unfold vfB; rw [hb]; rfl)
  have HB := Lib.hid hb
  clear hb
  unfold vF
  go_enter Tryz.func152, Tryz.ntmps152
  go_wp2_with fail
  refine (isWord_any _ _).mono ?_; rintro e w2 ⟨rfl, rfl⟩; rw [HB.out]
  go_wp2_with fail
  refine (validSort_any _ _ _).mono ?_; rintro e w3 ⟨rfl, hb3⟩; rw [H.out]
  have B3 := Lib.hid (B1.out.trans (hb3.mono B1.out.size))
  clear hb3
  go_wp2_with fail
  go_ret
  exact ⟨rfl, B3.out⟩
end
end Go.Proofs.YtekpefcggikcbaaGreatDoor
