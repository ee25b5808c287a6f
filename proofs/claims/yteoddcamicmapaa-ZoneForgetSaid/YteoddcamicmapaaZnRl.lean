/- Layer 13: the reference's Model (tools/gen_zk.py). -/
import Derived.Test.YteoddcamicmapaaZnRr
import Derived.Test.YteoddcamicmapaaZnPr
import Derived.Test.YteoddcamicmapaaZnMo
import Derived.Laws.OwnMore
import Derived.ArgAppend
namespace Go.Proofs.Yteoddcamicmapaa
open Go.RowKit

theorem grownBy_trans {a b c : World} {r : Option Nat} (h : a.grownBy b r) (k : b.grownBy c r) : a.grownBy c r :=
  ⟨k.os.trans h.os, k.tape.trans h.tape, k.output.trans h.output, Nat.le_trans h.size k.size, fun i hi hn => (k.block i (Nat.lt_of_lt_of_le hi h.size) hn).trans (h.block i hi hn)⟩
theorem grownBy_none {a b : World} {r : Option Nat} (h : a.grownBy b none) : a.grownBy b r := ⟨h.os, h.tape, h.output, h.size, fun i hi _ => h.block i hi (by simp)⟩
/-- The row v' is the row v, or new. -/
def Fresh (w : World) (v v' : Value) : Prop := ∃ b, v'.ownBlock = some b ∧ (v.ownBlock = some b ∨ w.heap.size ≤ b)
theorem app1T {P : Program} {w : World} {ops : Array Oper} {rest : List Oper} {o : Oper} {a : Act} {Q : Exit → Act → World → Prop} (hgd : o.guard = none) (s x : Operand) (t : TypeId)
    (ho : o.op = .call { callee := .builtin .append, args := #[s, x], argTypes := #[t, t] })
    (e : TypeId) (z : Value) (by_ : Nat) (hinfo : (P.info? e).map (fun i => (i.zero, i.size, i.bytes)) = some (some z, 1, by_)) (hzs : z.cells.size = 1) (ht : P.underlying t = some (.slice e))
    (B : Nat) (v : Value) (n : Nat) (xs : List Value) (hs : a.eval s = v) (hown : w.ownsRow B e 1 v n xs) (c : Value) (hx : a.eval x = .slice (some ⟨w.heap.size, 0, none⟩) 1 1) (h1 : c.oneCell' = true)
    (hr : (n + 1) * by_ ≤ 140737488355328) (hm : n + 1 ≤ 140737488355328) (hB : B ≤ w.heap.size)
    (h : ∀ v' w', w'.ownsRow B e 1 v' (n + 1) (xs ++ [c]) → w.grownBy w' v.ownBlock → Fresh w v v' → wpList P ops Q rest (a.put o.dst v') w') : wpList P ops Q (o :: rest) a (w.alloc (.cells #[c] e)) := by
  obtain ⟨i0, hi, hz0, hz1, hz2⟩ := info_parts hinfo
  have hnews : ∀ j u, [c][j]? = some u → (w.alloc (.cells #[c] e)).cell? ((⟨w.heap.size, 0, none⟩ : Addr).add j) = some u := by
    intro j u hj
    match j, hj with
    | 0, hj => simp at hj; subst hj; simp [Addr.add]
  have hone : ∀ u ∈ [c], u.oneCell' = true := by intro u hu; simp at hu; subst hu; exact h1
  have up : ∀ {v' : Value} {w' : World}, w'.ownsRow (w.alloc (.cells #[c] e)).heap.size e 1 v' (n + 1) (xs ++ [c]) → w'.ownsRow B e 1 v' (n + 1) (xs ++ [c]) ∧ Fresh w v v' := by
    intro v' w' ho'
    refine ⟨⟨ho'.1, ?_⟩, ?_⟩
    · rcases ho'.2 with ⟨_, h0⟩ | ⟨g, cap, cur, h2, h3, h4⟩
      · omega
      · exact .inr ⟨g, cap, cur, h2, by simp at h3; omega, h4⟩
    · rcases ho'.2 with ⟨_, h0⟩ | ⟨g, cap, cur, h2, h3, h4⟩
      · omega
      · exact ⟨g, by rw [h2]; rfl, .inr (by simp at h3; omega)⟩
  rcases hown.2 with ⟨rfl, rfl⟩ | ⟨g, cap, cur, rfl, hbg, hg, hnc, hcm, hcs, htake⟩
  · have hx0 : xs = [] := List.eq_nil_of_length_eq_zero (by simpa using hown.1)
    subst hx0
    refine wpList_append_grows _ hgd s x t ho e i0 z 1 by_ ht hi hz0 hz1 hz2 hzs (by decide) none 0 0 [] hs (fun _ => ⟨rfl, rfl⟩) rfl (by intro b hb; cases hb) ⟨w.heap.size, 0, none⟩ 1 1 [c] hx rfl hnews hone (by omega) (by unfold maxLen; omega) hr ?_
    intro v' w' ho' hgr
    obtain ⟨k1, k2⟩ := up ho'
    exact h v' w' k1 (grownBy_trans (World.grownBy_alloc w _ _) (grownBy_none hgr)) k2
  · by_cases hroom : n + 1 ≤ cap
    · refine wpList_append_fits _ hgd s x t ho B e i0 1 ht hi hz1 g n cap xs hs (hown.alloc _) ⟨w.heap.size, 0, none⟩ 1 1 [c] hx rfl hnews hone hroom ?_
      intro w' ho' hgr
      exact h _ w' ho' (grownBy_trans (World.grownBy_alloc w _ _) hgr) ⟨g, rfl, .inl rfl⟩
    · have holds : ∀ b, some (⟨g, 0, none⟩ : Addr) = some b → ∀ j u, xs[j]? = some u → (w.alloc (.cells #[c] e)).cell? (b.add j) = some u := fun b hb j u hj => by
        cases hb
        exact (hown.alloc (.cells #[c] e)).cells (g := g) rfl j u hj
      refine wpList_append_grows _ hgd s x t ho e i0 z 1 by_ ht hi hz0 hz1 hz2 hzs (by decide) (some ⟨g, 0, none⟩) n cap xs hs (fun hh => by cases hh) hown.1 holds ⟨w.heap.size, 0, none⟩ 1 1 [c] hx rfl hnews hone (by omega) (by unfold maxLen; omega) hr ?_
      intro v' w' ho' hgr
      obtain ⟨k1, k2⟩ := up ho'
      exact h v' w' k1 (grownBy_trans (World.grownBy_alloc w _ _) (grownBy_none hgr)) k2
theorem Own.grown {w w' : World} {B n : Nat} {r : Option Nat} {v : Value} {l : List Int} (h : Own w B v n l) (hg : w.grownBy w' r) (hr : ∀ g, r = some g → v.ownBlock ≠ some g) : Own w' B v n l :=
  World.ownsRow.kept (row := r) h hg (by
    cases e : v.ownBlock with
    | none => exact .inl rfl
    | some b => exact .inr (fun e2 => hr b e2.symm e))
theorem Bx.grown {w w' : World} {b T : Nat} {r : Option Nat} {cs : Array Value} (h : Bx w b T cs) (hg : w.grownBy w' r) (hr : ∀ g, r = some g → b ≠ g) : Bx w' b T cs :=
  (hg.block b h.lt (fun e => hr b e.symm rfl)).trans h
theorem Own.frm {w w' : World} {B n : Nat} {v : Value} {l : List Int} (h : Own w B v n l) (hg : w.grownBy w' v.ownBlock) (hB : B ≤ w.heap.size) : Below B w w' :=
  ⟨hg.os, hg.tape, hg.output, hg.size, fun k hk => hg.block k (by omega) (fun e => h.lt (.inl hk) e.symm)⟩
set_option maxRecDepth 20000 in
set_option maxHeartbeats 1000000 in
theorem rmodel_any (N : Int) (v : Value) (b : List Int) (w : World) (h : Sl iv w v b) (hl : b.length ≤ 9223372036854775807) :
    Calls Try.prog 28 #[.agg #[.int .i64 N, v]] w (MoP w (modR N b)) := by
  obtain ⟨A, c, rfl⟩ := h.shape
  have H := Lib.hid h
  clear h
  cases hc : closeR N b with
  | none =>
    have HR := Lib.hid (show modR N b = ([], false) by unfold modR; rw [hc])
    have HC := Lib.hid (closeZ_none hc)
    clear hc
    go_enter Try.func28, Try.ntmps28
    go_wp2_with fail
    refine (rclose_any N _ b _ (H.out.below (al1 w _)) hl).mono ?_; rintro e w2 ⟨v, rfl, ho, hb2⟩
    rw [HC.out] at ho ⊢
    have HB := Lib.hid ((al1 w (.cells #[.int .i64 N, .slice A b.length c] 24)).trans (hb2.mono (by simp)))
    obtain ⟨A3, c3, rfl⟩ := own_shapeG ho
    clear ho hb2
    go_wp2_with fail
    go_ret2
    exact ⟨_, by rw [HR.out]; rfl, by rw [HR.out]; exact Sl.nil, HB.out.alloc HB.out.size _⟩
  | some cl =>
    have hzv : zvB N b = true := by
      cases h : zvB N b with
      | true => rfl
      | false => rw [closeR_bad h] at hc; cases hc
    obtain ⟨m, rfl, hm, -, hz⟩ := zv_nat hzv
    have HC := Lib.hid (closeZ_some hc)
    have hcl := (closeR_nat hz).symm.trans hc
    have HZ := Lib.hid hz
    have HCC := Lib.hid hcl
    have HIS := Lib.hid (cls_is hz hcl)
    have HCL := Lib.hid (cls_len hz hcl)
    have HR := Lib.hid (show modR (m : Int) b = ((mdL (gt (m + 1) cl) m).drop 1, true) by unfold modR; rw [hc, show ((m : Int) + 1).toNat = m + 1 by omega, Int.toNat_natCast])
    have HX0 := Lib.hid (Bx.new w 24 #[.int .i64 (m : Int), .slice A b.length c])
    clear hc hzv hz hcl
    go_enter Try.func28, Try.ntmps28
    go_wp2_with fail
    refine (rclose_any m _ b _ (H.out.below (al1 w _)) hl).mono ?_; rintro e w2 ⟨v, rfl, ho, hb2⟩
    rw [HC.out] at ho ⊢
    have HB := Lib.hid ((al1 w (.cells #[.int .i64 (m : Int), .slice A b.length c] 24)).trans (hb2.mono (by simp)))
    obtain ⟨A3, c3, rfl⟩ := own_shapeG ho
    dsimp only at ho ⊢
    rw [HCL.out] at ho ⊢
    obtain ⟨q, hq⟩ : ∃ q, (m + 1) * (m + 1) = q := ⟨_, rfl⟩
    have HQ := Lib.hid hq
    rw [hq] at ho ⊢
    have HV0 := Lib.hid (show Own (w2.alloc (.cells #[.int .i64 (m : Int), .slice A3 q c3] 24)) w.heap.size (.slice A3 q c3) q cl from Own.mono (B := (w.alloc (.cells #[.int .i64 (m : Int), .slice A b.length c] 24)).heap.size) (ho.keep (al1 w2 _)) (by simp))
    have HNE := Lib.hid (show (Value.slice A3 q c3).ownBlock ≠ some w2.heap.size from ho.lt (.inr (Nat.le_refl _)))
    have HC4 := Lib.hid (Bx.new w2 24 #[.int .i64 (m : Int), .slice A3 q c3])
    have HX4 := Lib.hid ((HX0.out.below hb2).alloc (.cells #[.int .i64 (m : Int), .slice A3 q c3] 24))
    have HB4 := Lib.hid (HB.out.alloc HB.out.size (.cells #[.int .i64 (m : Int), .slice A3 q c3] 24))
    have HSZ := Lib.hid (show w.heap.size < w2.heap.size from (HX0.out.below hb2).lt)
    clear ho hb2 HX0 HB hq HC HCL
    go_wp2_with fail
    obtain ⟨w4, hw4⟩ : ∃ w4, w4 = w2.alloc (.cells #[.int .i64 (m : Int), .slice A3 q c3] 24) := ⟨_, rfl⟩
    have HZ4 := Lib.hid (show w4.heap.size = w2.heap.size + 1 by rw [hw4]; simp)
    rw [← hw4] at HV0 HC4 HX4 HB4 ⊢
    clear hw4
    obtain ⟨nb, hnb⟩ : ∃ nb, nb = w2.heap.size := ⟨_, rfl⟩
    rw [← hnb] at HNE HC4 HSZ HZ4 ⊢
    clear hnb
    have HOW0 := Lib.hid (show Own w4 w4.heap.size (.slice none 0 0) 0 ((mdL (gt (m + 1) cl) 0).drop 1) from World.ownsRow_nil _ _ _ _)
    go_loopw [6, 7] (fun vv j wr => ∃ (x : Nat) (cx : List Int) (vB : Value) (B : Nat), x ≤ m ∧ j = .int .i64 (x : Int) ∧ Hid (RmI m b cl x cx) ∧ Hid (Own wr w4.heap.size vv x ((mdL (gt (m + 1) cl) x).drop 1)) ∧ Hid (Own wr B vB q cx) ∧ Hid (∀ g, vv.ownBlock = some g → vB.ownBlock ≠ some g) ∧ Hid (Bx wr nb 24 #[.int .i64 (m : Int), vB]) ∧ Hid (Bx wr w.heap.size 24 #[.int .i64 (m : Int), .slice A b.length c]) ∧ Hid (Below w.heap.size w wr) ∧ Hid (w4.heap.size ≤ wr.heap.size)) (fun _ j _ => m - (intOf j).toNat)
    case atStart => exact ⟨0, cl, _, _, Nat.zero_le _, rfl, Lib.hid (RmI.start HZ.out HCC.out), HOW0, HV0, Lib.hid (fun g hg => by simp [Value.ownBlock] at hg), HC4, HX4, HB4, Lib.hid (Nat.le_refl _)⟩
    case round =>
      clear HOW0 HV0 HNE HC4 HX4 HB4
      obtain ⟨x, cx, vB, B, hx, rfl, HRM, HOW, HOB, HAP, HBX, HX, HBE, HSW⟩ := hrel
      obtain ⟨x0, x1⟩ := HX.out.k2
      by_cases hlt : x < m
      · have dk : decide ((x : Int) < (m : Int)) = true := decide_eq_true (by omega)
        have hval := RmI.val HZ.out HCC.out HRM.out hlt
        obtain ⟨hz2, c2, hc2, hrm2⟩ := RmI.step HZ.out HCC.out HRM.out hlt
        have hlen := HRM.out.1.len
        have hbd : -20000 ≤ gt (m + 1) cx 0 (x + 1) ∧ gt (m + 1) cx 0 (x + 1) ≤ 20000 := by
          have h1 := mdV_bnd HIS.out (k := x + 1) (by omega)
          omega
        have hq0 : 0 < q := by rw [← HQ.out]; exact Nat.mul_pos (by omega) (by omega)
        obtain ⟨g, cap, rfl, hg1, hg2, -⟩ := own_shape HOB.out hq0
        have hxq : x + 1 < q := by
          rw [← HQ.out]
          exact Nat.lt_of_lt_of_le (by omega : x + 1 < 1 * (m + 1)) (Nat.mul_le_mul_right _ (by omega))
        have hcell : wr.cell? ⟨g, x + 1, none⟩ = some (.int .i64 (gt (m + 1) cx 0 (x + 1))) := by
          have h1 := own_gt (n := m + 1) (i := 0) (j := x + 1) (by rw [HQ.out]; exact HOB.out) hlen (by omega) (by omega) wr (Below.refl _ _)
          rw [show 0 * (m + 1) + (x + 1) = x + 1 by omega] at h1
          exact h1
        have HMD := Lib.hid (show (mdL (gt (m + 1) cl) (x + 1)).drop 1 = (mdL (gt (m + 1) cl) x).drop 1 ++ [-gt (m + 1) cx 0 (x + 1)] from by
          rw [mdL, List.drop_append_of_le_length (by rw [mdL_len]; omega), hval, mdV_succ])
        rw [← hval] at hz2 hc2
        have HZ2 := Lib.hid hz2
        have HC2 := Lib.hid hc2
        have HRM2 := Lib.hid hrm2
        have hq9 : q ≤ 1000 := by rw [← HQ.out]; exact Nat.le_trans (Nat.mul_le_mul (by omega : m + 1 ≤ 25) (by omega : m + 1 ≤ 25)) (by decide)
        have HADZ := Lib.hid (show addZ (m : Int) cx (x : Int) (-1) (-gt (m + 1) cx 0 (x + 1)) = (((m : Int), addL (m + 1) cx (x + 1) 0 (-gt (m + 1) cx 0 (x + 1))), .int .i64 0) from by
          have hzc : zvB (m : Int) cx = true := zvB_iff.2 ⟨m + 1, by omega, HRM.out.1⟩
          have h1 := addZ_in (m := m) (b := cx) (i := x + 1) (j := 0) (C := -gt (m + 1) cx 0 (x + 1)) hzc (by unfold knB; simp; omega)
          rw [show (((x + 1 : Nat) : Int) - 1) = (x : Int) by omega, show (((0 : Nat) : Int) - 1) = -1 by omega] at h1
          exact h1)
        have HLN := Lib.hid (show cx.length = q by rw [hlen, HQ.out])
        generalize gt (m + 1) cx 0 (x + 1) = y at *
        have hN : IntKind.i64.wrap (-y) = -y := by rw [IntKind.wrap_i64]; omega
        have hX1 : IntKind.i64.wrap ((x : Int) + 1) = (x : Int) + 1 := by rw [IntKind.wrap_i64]; omega
        have hp1 : ((x : Int) + 1) < (q : Int) := by omega
        have ha1 := addr_lit0 g (x + 1)
        have htn : ((x : Int) + 1).toNat = x + 1 := by omega
        obtain ⟨b0, b1⟩ := HBX.out.k2
        have hown : wr.ownsRow w4.heap.size 3 1 _ x (((mdL (gt (m + 1) cl) x).drop 1).map iv) := HOW.out
        have hsz := HSW.out
        clear hval hz2 hc2 hrm2 hlen hbd
        go_wp2_with (at_builtin; refine app1T rfl _ _ 22 rfl 3 (.int .i64 0) 8 info_int rfl (by kernel_rfl) w4.heap.size _ _ _ rfl hown (.int .i64 (-y)) rfl rfl (by omega) (by omega) hsz ?_; intro v' w7 hown2 hgr hfr; obtain ⟨b2, b3⟩ := (HBX.out.belowB (HOW.out.frm hgr hsz) (by have := HZ4.out; omega)).k2)
        have HOW2 := Lib.hid (show Own w7 w4.heap.size v' (x + 1) ((mdL (gt (m + 1) cl) (x + 1)).drop 1) from by rw [HMD.out]; unfold Own; rw [List.map_append]; exact hown2)
        have HB7 := Lib.hid (HBE.out.trans ((HOW.out.frm hgr hsz).mono (by have := HSZ.out; have := HZ4.out; omega)))
        have HAPV := HAP.out
        have HOB7 := Lib.hid (HOB.out.grown hgr (fun g' h' => HAPV g' h'))
        have HBX7 := Lib.hid (HBX.out.belowB (HOW.out.frm hgr hsz) (by have := HZ4.out; omega))
        have HX7 := Lib.hid (HX.out.belowB (HOW.out.frm hgr hsz) (by have := HSZ.out; have := HZ4.out; omega))
        have HS7 := Lib.hid (show wr.heap.size ≤ w7.heap.size from hgr.size)
        clear hown hown2 hgr hfr hcell b0 b1 x0 x1 HOW HOB HAP HAPV HBX HX HBE hp1 ha1 htn
        clear b2 b3
        refine (radd_any m x (-1) (-y) _ cx w7 HOB7.out.sl (by rw [HLN.out]; omega)).mono ?_; rintro e w8 ⟨va, rfl, ho8, hb8⟩
        rw [HADZ.out] at ho8 ⊢
        obtain ⟨A8, c8, rfl⟩ := own_shapeG ho8
        dsimp only at ho8 ⊢
        have hal : (addL (m + 1) cx (x + 1) 0 (-y)).length = q := by rw [HZ2.out.len, HQ.out]
        rw [hal] at ho8 ⊢
        have HBX8 := Lib.hid (HBX7.out.below hb8)
        have HX8 := Lib.hid (HX7.out.below hb8)
        have HBE8 := Lib.hid (HB7.out.trans (hb8.mono HB7.out.size))
        have HOW8 := Lib.hid (show Own w8 w4.heap.size v' (x + 1) ((mdL (gt (m + 1) cl) (x + 1)).drop 1) from HOW2.out.keep hb8)
        have hnb7 : nb < w7.heap.size := HBX7.out.lt
        have HS8 := Lib.hid (show w4.heap.size ≤ w8.heap.size from by have := hb8.size; have := HS7.out; omega)
        have hnbw : nb < w4.heap.size := by have := HZ4.out; omega
        have hwn := HSZ.out
        have HOV9 := Lib.hid (show Own ((w8.setCell ⟨nb, 0, none⟩ (.int .i64 (m : Int))).setCell ⟨nb, 1, none⟩ (.slice A8 q c8)) w7.heap.size (.slice A8 q c8) q (addL (m + 1) cx (x + 1) 0 (-y)) from ((Own.other (show Own w8 _ _ _ _ from ho8) (ho8.lt (.inl hnb7))).other (ho8.lt (.inl hnb7))))
        have HOW9 := Lib.hid (show Own ((w8.setCell ⟨nb, 0, none⟩ (.int .i64 (m : Int))).setCell ⟨nb, 1, none⟩ (.slice A8 q c8)) w4.heap.size v' (x + 1) ((mdL (gt (m + 1) cl) (x + 1)).drop 1) from ((HOW8.out.other (HOW8.out.lt (.inl hnbw))).other (HOW8.out.lt (.inl hnbw))))
        have HBX9 := Lib.hid ((HBX8.out.set 0 (.int .i64 (m : Int))).set 1 (.slice A8 q c8))
        have HX9 := Lib.hid ((HX8.out.other (c := nb) (i := 0) (u := .int .i64 (m : Int)) (by omega)).other (c := nb) (i := 1) (u := .slice A8 q c8) (by omega))
        have HBE9 := Lib.hid ((HBE8.out.setCell (p := ⟨nb, 0, none⟩) (by show w.heap.size ≤ nb; omega) (.int .i64 (m : Int))).setCell (p := ⟨nb, 1, none⟩) (by show w.heap.size ≤ nb; omega) (.slice A8 q c8))
        obtain ⟨f0, f1⟩ := HBX8.out.f2
        obtain ⟨b0, b1⟩ := HBX8.out.k2
        obtain ⟨b2, b3⟩ := HBX9.out.k2
        clear ho8 hb8 HOW2 HB7 HOB7 HBX7 HX7 HS7 HBX8 HX8 HOW8 HBE8
        go_wp2_with fail
        have HZR := Lib.hid (closeZ_some ((closeR_nat HZ2.out).trans HC2.out))
        have HS9 := Lib.hid (show w8.heap.size = ((w8.setCell ⟨nb, 0, none⟩ (.int .i64 (m : Int))).setCell ⟨nb, 1, none⟩ (.slice A8 q c8)).heap.size by rw [size_set, size_set])
        clear b0 b1 b2 b3 f0 f1
        generalize (w8.setCell ⟨nb, 0, none⟩ (.int .i64 (m : Int))).setCell ⟨nb, 1, none⟩ (.slice A8 q c8) = w9 at *
        refine (rclose_any m _ _ w9 HOV9.out.sl (by rw [hal]; omega)).mono ?_; rintro e w10 ⟨vc, rfl, ho10, hb10⟩
        rw [HZR.out] at ho10 ⊢
        obtain ⟨A10, c10, rfl⟩ := own_shapeG ho10
        dsimp only at ho10 ⊢
        have hal2 : c2.length = q := by rw [HRM2.out.1.len, HQ.out]
        rw [hal2] at ho10 ⊢
        have HBX10 := Lib.hid (HBX9.out.below hb10)
        have HX10 := Lib.hid (HX9.out.below hb10)
        have HBE10 := Lib.hid (HBE9.out.trans (hb10.mono HBE9.out.size))
        have HOW10 := Lib.hid (show Own w10 w4.heap.size v' (x + 1) ((mdL (gt (m + 1) cl) (x + 1)).drop 1) from HOW9.out.keep hb10)
        have hnb9 : nb < w9.heap.size := HBX9.out.lt
        have HS10 := Lib.hid (show w4.heap.size ≤ ((w10.setCell ⟨nb, 0, none⟩ (.int .i64 (m : Int))).setCell ⟨nb, 1, none⟩ (.slice A10 q c10)).heap.size from by rw [size_set, size_set]; have := hb10.size; have := HS8.out; have := HS9.out; omega)
        have HOV11 := Lib.hid (show Own ((w10.setCell ⟨nb, 0, none⟩ (.int .i64 (m : Int))).setCell ⟨nb, 1, none⟩ (.slice A10 q c10)) w9.heap.size (.slice A10 q c10) q c2 from ((Own.other (show Own w10 _ _ _ _ from ho10) (ho10.lt (.inl hnb9))).other (ho10.lt (.inl hnb9))))
        have HOW11 := Lib.hid (show Own ((w10.setCell ⟨nb, 0, none⟩ (.int .i64 (m : Int))).setCell ⟨nb, 1, none⟩ (.slice A10 q c10)) w4.heap.size v' (x + 1) ((mdL (gt (m + 1) cl) (x + 1)).drop 1) from ((HOW10.out.other (HOW10.out.lt (.inl hnbw))).other (HOW10.out.lt (.inl hnbw))))
        have HAP11 := Lib.hid (show ∀ g', v'.ownBlock = some g' → (Value.slice A10 q c10).ownBlock ≠ some g' from fun g' h1 => ho10.lt (.inl (World.ownsRow.lt (show w9.ownsRow w4.heap.size 3 1 v' (x + 1) _ from HOW9.out) g' h1).2))
        have HBX11 := Lib.hid ((HBX10.out.set 0 (.int .i64 (m : Int))).set 1 (.slice A10 q c10))
        have HX11 := Lib.hid ((HX10.out.other (c := nb) (i := 0) (u := .int .i64 (m : Int)) (by omega)).other (c := nb) (i := 1) (u := .slice A10 q c10) (by omega))
        have HBE11 := Lib.hid ((HBE10.out.setCell (p := ⟨nb, 0, none⟩) (by show w.heap.size ≤ nb; omega) (.int .i64 (m : Int))).setCell (p := ⟨nb, 1, none⟩) (by show w.heap.size ≤ nb; omega) (.slice A10 q c10))
        obtain ⟨f0, f1⟩ := HBX10.out.f2
        obtain ⟨b0, b1⟩ := HBX10.out.k2
        clear ho10 hb10 HOV9 HOW9 HBX9 HX9 HBE9 HBX10 HX10 HBE10 HOW10 HS8 HS9
        go_wp2_with fail
        clear f0 f1 b0 b1
        go_roundw
        case rel => exact ⟨x + 1, c2, _, _, by omega, by go_num, HRM2, HOW11, HOV11, HAP11, HBX11, HX11, HBE11, HS10⟩
        case measure => simp [intOf]; omega
      · obtain rfl : x = m := by omega
        have HBEO := Lib.hid HBE.out
        have HSLO := Lib.hid HOW.out.sl
        clear HOW HBX HX HBE HOB HAP HSW
        go_wp2_with fail
        go_ret2
        exact ⟨_, by rw [HR.out]; rfl, by rw [HR.out]; exact HSLO.out, HBEO.out⟩
end Go.Proofs.Yteoddcamicmapaa
