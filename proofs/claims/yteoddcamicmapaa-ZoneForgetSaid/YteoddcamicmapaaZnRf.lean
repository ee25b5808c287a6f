/- Layer 13: the reference's Forget (tools/gen_zf.py). -/
import Derived.Test.YteoddcamicmapaaZnPf
import Derived.Test.YteoddcamicmapaaZnRu
import Derived.Test.YteoddcamicmapaaRegE
namespace Go.Proofs.Yteoddcamicmapaa
open Go.RowKit

/-- Reads and calls that grow memory in any order, and two stores into a block. -/
def RdH (val : Nat → Value) (s1 s2 : Nat) (wd : World) (g : Nat) (p1 : Nat) (y1 : Value) (p2 : Nat) (y2 : Value) (L : Nat → Bool) (vs : Nat → Value) (w : World) : Prop :=
  (∀ i, i ≠ s1 → i ≠ s2 → L i = true → vs i = val i) ∧ ∃ w6, Hid (Below wd.heap.size wd w6) ∧ (L s1 = false → L s2 = false → w = w6) ∧ (L s1 = true → L s2 = false → w = w6.setCell ⟨g, p1, none⟩ y1) ∧ (L s1 = true → L s2 = true → w = (w6.setCell ⟨g, p1, none⟩ y1).setCell ⟨g, p2, none⟩ y2) ∧ (L s2 = true → L s1 = true)
section
variable {val : Nat → Value} {s1 s2 : Nat} {wd w w' : World} {g p1 p2 : Nat} {y1 y2 : Value} {L : Nat → Bool} {vs : Nat → Value}
theorem RdH.start : RdH val s1 s2 wd g p1 y1 p2 y2 (fun _ => false) vs wd.drew := ⟨fun _ _ _ h => nopeB rfl h, _, Lib.hid (Below.refl _ _).drew, fun _ _ => rfl, fun h => nopeB rfl h, fun h => nopeB rfl h, fun h => nopeB rfl h⟩
theorem RdH.ext (h : RdH val s1 s2 wd g p1 y1 p2 y2 L vs w) (h1 : L s1 = false) (h2 : L s2 = false) : Below wd.heap.size wd w := by
  obtain ⟨_, w6, hb, e, _⟩ := h
  rw [e h1 h2]; exact hb.out
theorem RdH.only (h : RdH val s1 s2 wd g p1 y1 p2 y2 L vs w) : Only g wd w := by
  obtain ⟨_, w6, hb, e1, e2, e3, e4⟩ := h
  cases h1 : L s1 with
  | false =>
    cases h2 : L s2 with
    | false => rw [e1 h1 h2]; exact Only.of hb.out
    | true => rw [e4 h2] at h1; cases h1
  | true =>
    cases h2 : L s2 with
    | false => rw [e2 h1 h2]; exact (Only.of hb.out).set
    | true => rw [e3 h1 h2]; exact (Only.of hb.out).set.set
theorem RdH.vals (h : RdH val s1 s2 wd g p1 y1 p2 y2 L vs w) (i : Nat) {v : Value} (hv : v = val i) : ∀ j, j ≠ s1 → j ≠ s2 → (updB L i) j = true → (updV vs i v) j = val j := by
  intro j h1 h2 hl
  by_cases e : j = i
  · subst e; rw [updV_self]; exact hv
  · rw [updV_ne _ _ e]; rw [updB_ne _ e] at hl; exact h.1 j h1 h2 hl
theorem RdH.step (h : RdH val s1 s2 wd g p1 y1 p2 y2 L vs w) (i : Nat) (h1 : s1 ≠ i) (h2 : s2 ≠ i) : RdH val s1 s2 wd g p1 y1 p2 y2 (updB L i) (updV vs i (val i)) w := by
  refine ⟨h.vals i rfl, ?_⟩
  rw [updB_ne L h1, updB_ne L h2]
  exact h.2
theorem RdH.grow (h : RdH val s1 s2 wd g p1 y1 p2 y2 L vs w) {i : Nat} (h1 : s1 ≠ i) (h2 : s2 ≠ i) (hl1 : L s1 = false) (hl2 : L s2 = false) (hb : Below w.heap.size w w') : RdH val s1 s2 wd g p1 y1 p2 y2 (updB L i) (updV vs i (val i)) w' := by
  refine ⟨h.vals i rfl, w', Lib.hid ?_, fun _ _ => rfl, fun h3 => ?_, fun h3 => ?_, fun h3 => ?_⟩
  · have := h.ext hl1 hl2
    exact this.trans (hb.mono this.size)
  · rw [updB_ne L h1, hl1] at h3; cases h3
  · rw [updB_ne L h1, hl1] at h3; cases h3
  · rw [updB_ne L h2, hl2] at h3; cases h3
theorem RdH.put1 (h : RdH val s1 s2 wd g p1 y1 p2 y2 L vs w) (hne : s2 ≠ s1) (hl1 : L s1 = false) (hl2 : L s2 = false) : RdH val s1 s2 wd g p1 y1 p2 y2 (updB L s1) (updV vs s1 undef) (w.setCell ⟨g, p1, none⟩ y1) := by
  refine ⟨fun j hj hj2 h2 => ?_, w, Lib.hid (h.ext hl1 hl2), fun h3 => ?_, fun _ _ => rfl, fun _ h3 => ?_, fun h3 => ?_⟩
  · rw [updV_ne _ _ hj]; rw [updB_ne _ hj] at h2; exact h.1 j hj hj2 h2
  · rw [updB_self] at h3; cases h3
  · rw [updB_ne L hne, hl2] at h3; cases h3
  · rw [updB_ne L hne, hl2] at h3; cases h3
theorem RdH.mid (h : RdH val s1 s2 wd g p1 y1 p2 y2 L vs w) (hl1 : L s1 = true) (hl2 : L s2 = false) : ∃ w8, Below wd.heap.size wd w8 ∧ w = w8.setCell ⟨g, p1, none⟩ y1 := by
  obtain ⟨_, w6, hb, _, e, _⟩ := h
  exact ⟨w6, hb.out, e hl1 hl2⟩
theorem RdH.put2 {w8 : World} (h : RdH val s1 s2 wd g p1 y1 p2 y2 L vs (w8.setCell ⟨g, p1, none⟩ y1)) (hne : s1 ≠ s2) (hl1 : L s1 = true) (hl2 : L s2 = false) : RdH val s1 s2 wd g p1 y1 p2 y2 (updB L s2) (updV vs s2 undef) ((w8.setCell ⟨g, p1, none⟩ y1).setCell ⟨g, p2, none⟩ y2) := by
  obtain ⟨h0, w6, hb, _, e, _⟩ := h
  refine ⟨fun j hj hj2 h2 => ?_, w6, hb, fun h3 => ?_, fun _ h3 => ?_, fun _ _ => by rw [e hl1 hl2], fun _ => ?_⟩
  · rw [updV_ne _ _ hj2]; rw [updB_ne _ hj2] at h2; exact h0 j hj hj2 h2
  · rw [updB_ne L hne, hl1] at h3; cases h3
  · rw [updB_self] at h3; cases h3
  · rw [updB_ne L hne]; exact hl1
theorem RdH.fin (h : RdH val s1 s2 wd g p1 y1 p2 y2 L vs w) (hl1 : L s1 = true) (hl2 : L s2 = true) : ∃ w6, Hid (Below wd.heap.size wd w6) ∧ w = (w6.setCell ⟨g, p1, none⟩ y1).setCell ⟨g, p2, none⟩ y2 := by
  obtain ⟨_, w6, h1, _, _, e, _⟩ := h
  exact ⟨w6, h1, e hl1 hl2⟩
end
theorem own_upd1 {w w6 : World} {B g q c p : Nat} {l : List Int} {x : Int} (h : Own w B (.slice (some ⟨g, 0, none⟩) q c) q l) (hx : Below w.heap.size w w6) : Own (w6.setCell ⟨g, p, none⟩ (.int .i64 x)) B (.slice (some ⟨g, 0, none⟩) q c) q (l.set p x) := own_put (h.keep hx) p x
set_option maxRecDepth 20000 in
set_option maxHeartbeats 2000000 in
theorem rforget_any (N X : Int) (v : Value) (b : List Int) (w : World) (h : Sl iv w v b) (hl : b.length ≤ 9223372036854775807) :
    Calls Try.prog 38 #[.agg #[.int .i64 N, v], .int .i64 X] w (ZP w (frgZ N b X)) := by
  obtain ⟨A, c, rfl⟩ := h.shape
  have H := Lib.hid h
  clear h
  cases hp : zvB N b with
  | false =>
    have HR := Lib.hid (frgZ_bad (X := X) hp)
    have Hp := Lib.hid hp
    clear hp
    go_enter Try.func38, Try.ntmps38
    go_wp2_with fail
    refine (rvalid_any N _ b _ (H.out.below (al2 w _ _)) hl).mono ?_; rintro e w1 ⟨rfl, hb⟩; rw [Hp.out]
    obtain ⟨-, HY, HB⟩ := two_boxes rfl rfl hb
    obtain ⟨y0, y1⟩ := HY.out.k2
    obtain ⟨f0, f1⟩ := HY.out.f2
    clear hb
    go_wp2_with fail
    refine bodyPost_ret (v := .tuple #[.agg #[.int .i64 0, .slice none 0 0], .int .i64 1]) (bx_ret2 ((HY.out.set 0 _).set 1 _) Try.results38 _ rfl Try.underlying24 rfl (by kernel_rfl)) rfl ?_
    exact zp_zero HR.out (by omega) HB.out
  | true =>
    have Hp := Lib.hid hp
    obtain ⟨m, rfl, hm, -, hz⟩ := zv_nat hp
    have HZ := Lib.hid hz
    clear hz
    by_cases hx : 0 ≤ X ∧ X < (m : Int)
    · obtain ⟨x, rfl⟩ : ∃ q : Nat, X = q := ⟨X.toNat, by omega⟩
      have hxm : x < m := by omega
      have dx1 : decide ((x : Int) < 0) = false := decide_eq_false (by omega)
      have dx2 : decide (m ≤ x) = false := decide_eq_false (by omega)
      have dx3 : decide ((m : Int) ≤ (x : Int)) = false := decide_eq_false (by omega)
      clear hx hp
      go_enter Try.func38, Try.ntmps38
      go_wp2_with fail
      refine (rvalid_any m _ b _ (H.out.below (al2 w _ _)) hl).mono ?_; rintro e w1 ⟨rfl, hb⟩; rw [Hp.out]
      obtain ⟨HX, HY, HB⟩ := two_boxes rfl rfl hb
      obtain ⟨x0, x1⟩ := HX.out.k2
      clear hb
      go_wp2_with fail
      refine (rclose_any m _ b _ (H.out.below HB.out) hl).mono ?_; rintro e w3 ⟨v, rfl, ho, hb⟩
      have HX3 := Lib.hid (HX.out.below hb)
      have HY3 := Lib.hid (HY.out.below hb)
      have HB3 := Lib.hid (HB.out.trans (hb.mono HB.out.size))
      have HS1 := Lib.hid (show w.heap.size + 1 < w1.heap.size from HY.out.lt)
      have HS3 := Lib.hid (show w1.heap.size ≤ w3.heap.size from hb.size)
      clear x0 x1 hb HX HY
      cases hc : cls (m + 1) b with
      | none =>
        have HR := Lib.hid (frgZ_none HZ.out hxm hc)
        rw [closeZ_none ((closeR_nat HZ.out).trans hc)] at ho ⊢
        obtain ⟨A3, c3, rfl⟩ := own_shapeG ho
        dsimp only at ho ⊢
        have HX4 := Lib.hid (HX3.out.alloc (.cells #[.int .i64 0, .slice A3 ([] : List Int).length c3] 24))
        have HY4 := Lib.hid (HY3.out.alloc (.cells #[.int .i64 0, .slice A3 ([] : List Int).length c3] 24))
        have HB4 := Lib.hid (HB3.out.alloc HB3.out.size (.cells #[.int .i64 0, .slice A3 ([] : List Int).length c3] 24))
        clear ho hc HX3 HY3 HB3 HB
        simp only [List.length_nil] at HX4 HY4 HB4
        generalize hw4 : w3.alloc (.cells #[.int .i64 0, .slice A3 0 c3] 24) = w4 at *
        obtain ⟨x0, x1⟩ := HX4.out.k2
        go_wp2_with (rw [hw4])
        refine (rempty_any m hm _).mono ?_; rintro e w6 ⟨v, rfl, ho, hb⟩
        obtain ⟨A6, c6, rfl⟩ := own_shapeG ho
        have HO6 := Lib.hid ho
        have HY6 := Lib.hid (HY4.out.below hb)
        have HB6 := Lib.hid (HB4.out.trans (hb.mono HB4.out.size))
        have hs4 := HY4.out.lt
        obtain ⟨y0, y1⟩ := HY6.out.k2
        obtain ⟨f0, f1⟩ := HY6.out.f2
        clear ho hb x0 x1
        go_wp2_with fail
        refine bodyPost_ret (v := .tuple #[.agg #[.int .i64 (m : Int), .slice A6 ((m + 1) * (m + 1)) c6], .int .i64 0]) (bx_ret2 ((HY6.out.set 0 _).set 1 _) Try.results38 _ rfl Try.underlying24 rfl (by kernel_rfl)) rfl ?_
        exact zp_fin HR.out (by omega) HB6.out HB4.out.size HO6.out (HO6.out.lt (.inl hs4))
      | some cl =>
        obtain ⟨c2, hc2⟩ := fg_some (x := x) HZ.out hc
        have HR := Lib.hid (frgZ_some HZ.out hxm hc hc2)
        have HCF := Lib.hid (closeZ_some ((closeR_nat (fg_zv (x := x) (cls_zv HZ.out hc))).trans hc2))
        have hcl := cls_len HZ.out hc
        rw [closeZ_some ((closeR_nat HZ.out).trans hc)] at ho ⊢
        obtain ⟨A3, c4, rfl⟩ := own_shapeG ho
        dsimp only at ho ⊢
        have HFZ := Lib.hid (fgR_zero hcl x)
        rw [hcl] at ho ⊢
        obtain ⟨q, hq⟩ : ∃ q, (m + 1) * (m + 1) = q := ⟨_, rfl⟩
        have HQ := Lib.hid hq
        rw [hq] at ho hcl ⊢
        have hq0 : 0 < q := by rw [← hq]; exact Nat.mul_pos (by omega) (by omega)
        have hq9 : q ≤ 1000 := by rw [← hq]; exact Nat.le_trans (Nat.mul_le_mul (by omega : m + 1 ≤ 25) (by omega : m + 1 ≤ 25)) (by decide)
        obtain ⟨g, cap, hg, hg1, hg2, -⟩ := own_shape ho (by omega)
        simp only [Value.slice.injEq] at hg
        obtain ⟨rfl, -, rfl⟩ := hg
        have hgn : g ≠ w3.heap.size := by omega
        obtain ⟨B, hB⟩ : ∃ B, B = w1.heap.size := ⟨_, rfl⟩
        rw [← hB] at hg1
        have HO4 := Lib.hid (show Own (w3.alloc (.cells #[.int .i64 (m : Int), .slice (some ⟨g, 0, none⟩) q c4] 24)) B (.slice (some ⟨g, 0, none⟩) q c4) q (fgR (m + 1) cl x 0) from by rw [HFZ.out, hB]; exact Own.keep ho (al1 w3 _))
        have HX4 := Lib.hid (HX3.out.alloc (.cells #[.int .i64 (m : Int), .slice (some ⟨g, 0, none⟩) q c4] 24))
        have HY4 := Lib.hid (HY3.out.alloc (.cells #[.int .i64 (m : Int), .slice (some ⟨g, 0, none⟩) q c4] 24))
        have HC4 := Lib.hid (Bx.new w3 24 #[.int .i64 (m : Int), .slice (some ⟨g, 0, none⟩) q c4])
        have HB4 := Lib.hid (HB3.out.alloc HB3.out.size (.cells #[.int .i64 (m : Int), .slice (some ⟨g, 0, none⟩) q c4] 24))
        have hs1 := HS1.out
        have hs3 := HS3.out
        rw [← hB] at hs1 hs3
        have HBW := Lib.hid HB.out.size
        obtain ⟨x0, x1⟩ := HX4.out.k2
        clear ho hc hc2 HX3 HY3 HB3 hB HFZ HB HS1 HS3 hg2
        go_wp2_with fail
        clear x0 x1 HX4
        obtain ⟨w4, hw4⟩ : ∃ w4, w4 = w3.alloc (.cells #[.int .i64 (m : Int), .slice (some ⟨g, 0, none⟩) q c4] 24) := ⟨_, rfl⟩
        rw [← hw4] at HO4 HY4 HC4 HB4 ⊢
        obtain ⟨nb, hnb⟩ : ∃ nb, nb = w3.heap.size := ⟨_, rfl⟩
        rw [← hnb] at hgn HC4 hs3 ⊢
        clear hnb hw4
        go_loopw [9] (fun iv wr => ∃ i : Nat, i ≤ m + 1 ∧ iv = .int .i64 (i : Int) ∧ Hid (Own wr B (.slice (some ⟨g, 0, none⟩) q c4) q (fgR (m + 1) cl x i)) ∧ Hid (Below w.heap.size w wr) ∧ Hid (Bx wr (w.heap.size + 1) 24 #[.int .i64 0, .slice none 0 0]) ∧ Hid (Bx wr nb 24 #[.int .i64 (m : Int), .slice (some ⟨g, 0, none⟩) q c4])) (fun i _ => m + 1 - (intOf i).toNat)
        case atStart => exact ⟨0, Nat.zero_le _, rfl, HO4, HB4, HY4, HC4⟩
        case round =>
          clear HO4 HB4 HY4 HC4
          obtain ⟨i, hi, rfl, HO, HBE, HRB, HNB⟩ := hrel
          by_cases hil : i < m + 1
          · have di : decide ((i : Int) < (m : Int) + 1) = true := decide_eq_true (by omega)
            have hsq1 := sq_lt hil (show x + 1 < m + 1 by omega)
            have hsq2 := sq_lt (show x + 1 < m + 1 by omega) hil
            have hmf1 := mul_few hm (show i ≤ m by omega)
            have hmf2 := mul_few hm (show x + 1 ≤ m by omega)
            have HFS := Lib.hid (fgR_step (n := m + 1) (x := x) (i := i) cl (by omega) hil)
            have hfl := fgR_len (m + 1) cl x i
            have HFU1 := Lib.hid (show ∀ w6, Calls Try.prog 48 #[.int .i64 (i : Int), .int .i64 ((x : Int) + 1)] w6 (Tells w6 (.int .i64 (fuB i (x + 1)))) from fun w6 => rfull_any i (x + 1) w6 (by omega) (by omega))
            have HFU2 := Lib.hid (show ∀ w6, Calls Try.prog 48 #[.int .i64 ((x : Int) + 1), .int .i64 (i : Int)] w6 (Tells w6 (.int .i64 (fuB (x + 1) i))) from fun w6 => rfull_any (x + 1) i w6 (by omega) (by omega))
            generalize fuB i (x + 1) = y1 at *
            generalize fuB (x + 1) i = y2 at *
            have hrm : (i : Int) * ((m : Int) + 1) = ((i * (m + 1) : Nat) : Int) := by push_cast; rfl
            have hsm : ((x : Int) + 1) * ((m : Int) + 1) = (((x + 1) * (m + 1) : Nat) : Int) := by push_cast; rfl
            obtain ⟨r, hrr⟩ : ∃ r, i * (m + 1) = r := ⟨_, rfl⟩
            obtain ⟨r2, hrr2⟩ : ∃ r, (x + 1) * (m + 1) = r := ⟨_, rfl⟩
            rw [hrr] at hrm hsq1 hmf1 HFS
            rw [hrr2] at hsm hsq2 hmf2 HFS
            rw [HQ.out] at hsq1 hsq2 hfl
            obtain ⟨p1, hpp1⟩ : ∃ p, r + (x + 1) = p := ⟨_, rfl⟩
            obtain ⟨p2, hpp2⟩ : ∃ p, r2 + i = p := ⟨_, rfl⟩
            rw [hpp1] at hsq1 HFS
            rw [hpp2] at hsq2 HFS
            have hp1 : ¬ ((q : Int) ≤ (p1 : Int)) := by omega
            have hp2 : ¬ ((q : Int) ≤ (p2 : Int)) := by omega
            have hl1p : p1 < (fgR (m + 1) cl x i).length := by omega
            have hl2p : p2 < (fgR (m + 1) cl x i).length := by omega
            have HW := Lib.hid (show IntKind.i64.wrap ((x : Int) + 1) = (x : Int) + 1 from by rw [IntKind.wrap_i64]; omega)
            have HR1 := Lib.hid hrm
            have HR2 := Lib.hid (show IntKind.i64.wrap (r : Int) = (r : Int) from by rw [IntKind.wrap_i64]; omega)
            have HR3 := Lib.hid (show IntKind.i64.wrap ((r : Int) + (x : Int)) = (r : Int) + (x : Int) from by rw [IntKind.wrap_i64]; omega)
            have HR4 := Lib.hid (show (r : Int) + (x : Int) + 1 = (p1 : Int) by omega)
            have HR5 := Lib.hid (show IntKind.i64.wrap (p1 : Int) = (p1 : Int) from by rw [IntKind.wrap_i64]; omega)
            have HS1 := Lib.hid hsm
            have HS2 := Lib.hid (show IntKind.i64.wrap (r2 : Int) = (r2 : Int) from by rw [IntKind.wrap_i64]; omega)
            have HS3 := Lib.hid (show (r2 : Int) + (i : Int) = (p2 : Int) by omega)
            have HS4 := Lib.hid (show IntKind.i64.wrap (p2 : Int) = (p2 : Int) from by rw [IntKind.wrap_i64]; omega)
            have hgw : w.heap.size ≤ g := by have := HBW.out; omega
            clear hrm hsm hrr hrr2 hpp1 hpp2 hsq1 hsq2 hmf1 hmf2 hfl
            go_wp2_with fail
            refine region_invE (n := 77) (RdH (fun zz => match zz with | 0 => .pointer (some ⟨nb, 1, none⟩) | 1 => .slice (some ⟨g, 0, none⟩) q c4 | 2 => .int .i64 ((i : Int)) | 3 => .int .i64 ((m : Int) + 1) | 4 => .int .i64 (r : Int) | 5 => .int .i64 ((x : Int)) | 6 => .int .i64 ((r : Int) + (x : Int)) | 7 => .int .i64 (p1 : Int) | 8 => .pointer (some ⟨nb, 1, none⟩) | 9 => .slice (some ⟨g, 0, none⟩) q c4 | 10 => .int .i64 ((x : Int)) | 11 => .int .i64 ((x : Int) + 1) | 12 => .int .i64 ((m : Int) + 1) | 13 => .int .i64 (r2 : Int) | 14 => .int .i64 ((i : Int)) | 15 => .int .i64 (p2 : Int) | 16 => .int .i64 ((i : Int)) | 17 => .int .i64 ((x : Int)) | 18 => .int .i64 ((x : Int) + 1) | 19 => .int .i64 (y1) | 20 => .int .i64 ((x : Int)) | 21 => .int .i64 ((x : Int) + 1) | 22 => .int .i64 ((i : Int)) | 23 => .int .i64 (y2) | 24 => .pointer (some ⟨g, p1, none⟩) | 26 => .pointer (some ⟨g, p2, none⟩) | _ => undef) 25 27 (wr) g (p1) (.int .i64 (y1)) (p2) (.int .i64 (y2))) (by kernel_rfl) (by kernel_rfl) rfl ?_ (allOps_spec ?_) ?_
            · intro vs
              exact RdH.start
            · refine ⟨?_, ?_, ?_, ?_, ?_, ?_, ?_, ?_, ?_, ?_, ?_, ?_, ?_, ?_, ?_, ?_, ?_, ?_, ?_, ?_, ?_, ?_, ?_, ?_, ?_, ?_, ?_, ?_, trivial⟩
              · intro L vs ac w6 hB hL hd hI
                have b6 : ac.tmps[6]?.getD undef = .pointer (some ⟨nb, 0, none⟩) := hB.at 6 (by kernel_rfl)
                exact stepI_run (v := .pointer (some ⟨nb, 1, none⟩)) rfl (by simp [execOp, go_sem, Act.eval, b6]) (hI.step 0 (by decide) (by decide))
              · intro L vs ac w6 hB hL hd hI
                have b45 : ac.tmps[45]?.getD undef = .pointer (some ⟨nb, 1, none⟩) := (hB.val 0 (hd ⟨0, .data⟩ (by simp) rfl) 45 rfl).trans (hI.1 0 (by decide) (by decide) (hd ⟨0, .data⟩ (by simp) rfl))
                have ho := hI.only
                have q1 := (Bx.onlyT HNB.out ho (by omega)).cell 1
                exact stepI_run (v := .slice (some ⟨g, 0, none⟩) q c4) rfl (by simp [execOp, go_sem, Act.eval, b45, q1]) (hI.step 1 (by decide) (by decide))
              · intro L vs ac w6 hB hL hd hI
                have b9 : ac.tmps[9]?.getD undef = .int .i64 ((i : Int)) := hB.at 9 (by kernel_rfl)
                exact stepI_run (v := .int .i64 ((i : Int))) rfl (by simp [execOp, go_sem, Act.eval, b9]) (hI.step 2 (by decide) (by decide))
              · intro L vs ac w6 hB hL hd hI
                have b8 : ac.tmps[8]?.getD undef = .int .i64 ((m : Int) + 1) := hB.at 8 (by kernel_rfl)
                exact stepI_run (v := .int .i64 ((m : Int) + 1)) rfl (by simp [execOp, go_sem, Act.eval, b8]) (hI.step 3 (by decide) (by decide))
              · intro L vs ac w6 hB hL hd hI
                have b47 : ac.tmps[47]?.getD undef = .int .i64 ((i : Int)) := (hB.val 2 (hd ⟨2, .data⟩ (by simp) rfl) 47 rfl).trans (hI.1 2 (by decide) (by decide) (hd ⟨2, .data⟩ (by simp) rfl))
                have b48 : ac.tmps[48]?.getD undef = .int .i64 ((m : Int) + 1) := (hB.val 3 (hd ⟨3, .data⟩ (by simp) rfl) 48 rfl).trans (hI.1 3 (by decide) (by decide) (hd ⟨3, .data⟩ (by simp) rfl))
                exact stepI_run (v := .int .i64 (r : Int)) rfl (by simp [execOp, go_sem, Act.eval, b47, b48, HR1.out, HR2.out]) (hI.step 4 (by decide) (by decide))
              · intro L vs ac w6 hB hL hd hI
                have b1 : ac.tmps[1]?.getD undef = .int .i64 ((x : Int)) := hB.at 1 (by kernel_rfl)
                exact stepI_run (v := .int .i64 ((x : Int))) rfl (by simp [execOp, go_sem, Act.eval, b1]) (hI.step 5 (by decide) (by decide))
              · intro L vs ac w6 hB hL hd hI
                have b49 : ac.tmps[49]?.getD undef = .int .i64 (r : Int) := (hB.val 4 (hd ⟨4, .data⟩ (by simp) rfl) 49 rfl).trans (hI.1 4 (by decide) (by decide) (hd ⟨4, .data⟩ (by simp) rfl))
                have b50 : ac.tmps[50]?.getD undef = .int .i64 ((x : Int)) := (hB.val 5 (hd ⟨5, .data⟩ (by simp) rfl) 50 rfl).trans (hI.1 5 (by decide) (by decide) (hd ⟨5, .data⟩ (by simp) rfl))
                exact stepI_run (v := .int .i64 ((r : Int) + (x : Int))) rfl (by simp [execOp, go_sem, Act.eval, b49, b50, HR3.out]) (hI.step 6 (by decide) (by decide))
              · intro L vs ac w6 hB hL hd hI
                have b51 : ac.tmps[51]?.getD undef = .int .i64 ((r : Int) + (x : Int)) := (hB.val 6 (hd ⟨6, .data⟩ (by simp) rfl) 51 rfl).trans (hI.1 6 (by decide) (by decide) (hd ⟨6, .data⟩ (by simp) rfl))
                exact stepI_run (v := .int .i64 (p1 : Int)) rfl (by simp [execOp, go_sem, Act.eval, b51, HR4.out, HR5.out]) (hI.step 7 (by decide) (by decide))
              · intro L vs ac w6 hB hL hd hI
                have b6 : ac.tmps[6]?.getD undef = .pointer (some ⟨nb, 0, none⟩) := hB.at 6 (by kernel_rfl)
                exact stepI_run (v := .pointer (some ⟨nb, 1, none⟩)) rfl (by simp [execOp, go_sem, Act.eval, b6]) (hI.step 8 (by decide) (by decide))
              · intro L vs ac w6 hB hL hd hI
                have b53 : ac.tmps[53]?.getD undef = .pointer (some ⟨nb, 1, none⟩) := (hB.val 8 (hd ⟨8, .data⟩ (by simp) rfl) 53 rfl).trans (hI.1 8 (by decide) (by decide) (hd ⟨8, .data⟩ (by simp) rfl))
                have ho := hI.only
                have q1 := (Bx.onlyT HNB.out ho (by omega)).cell 1
                exact stepI_run (v := .slice (some ⟨g, 0, none⟩) q c4) rfl (by simp [execOp, go_sem, Act.eval, b53, q1]) (hI.step 9 (by decide) (by decide))
              · intro L vs ac w6 hB hL hd hI
                have b1 : ac.tmps[1]?.getD undef = .int .i64 ((x : Int)) := hB.at 1 (by kernel_rfl)
                exact stepI_run (v := .int .i64 ((x : Int))) rfl (by simp [execOp, go_sem, Act.eval, b1]) (hI.step 10 (by decide) (by decide))
              · intro L vs ac w6 hB hL hd hI
                have b55 : ac.tmps[55]?.getD undef = .int .i64 ((x : Int)) := (hB.val 10 (hd ⟨10, .data⟩ (by simp) rfl) 55 rfl).trans (hI.1 10 (by decide) (by decide) (hd ⟨10, .data⟩ (by simp) rfl))
                exact stepI_run (v := .int .i64 ((x : Int) + 1)) rfl (by simp [execOp, go_sem, Act.eval, b55, HW.out]) (hI.step 11 (by decide) (by decide))
              · intro L vs ac w6 hB hL hd hI
                have b8 : ac.tmps[8]?.getD undef = .int .i64 ((m : Int) + 1) := hB.at 8 (by kernel_rfl)
                exact stepI_run (v := .int .i64 ((m : Int) + 1)) rfl (by simp [execOp, go_sem, Act.eval, b8]) (hI.step 12 (by decide) (by decide))
              · intro L vs ac w6 hB hL hd hI
                have b56 : ac.tmps[56]?.getD undef = .int .i64 ((x : Int) + 1) := (hB.val 11 (hd ⟨11, .data⟩ (by simp) rfl) 56 rfl).trans (hI.1 11 (by decide) (by decide) (hd ⟨11, .data⟩ (by simp) rfl))
                have b57 : ac.tmps[57]?.getD undef = .int .i64 ((m : Int) + 1) := (hB.val 12 (hd ⟨12, .data⟩ (by simp) rfl) 57 rfl).trans (hI.1 12 (by decide) (by decide) (hd ⟨12, .data⟩ (by simp) rfl))
                exact stepI_run (v := .int .i64 (r2 : Int)) rfl (by simp [execOp, go_sem, Act.eval, b56, b57, HS1.out, HS2.out]) (hI.step 13 (by decide) (by decide))
              · intro L vs ac w6 hB hL hd hI
                have b9 : ac.tmps[9]?.getD undef = .int .i64 ((i : Int)) := hB.at 9 (by kernel_rfl)
                exact stepI_run (v := .int .i64 ((i : Int))) rfl (by simp [execOp, go_sem, Act.eval, b9]) (hI.step 14 (by decide) (by decide))
              · intro L vs ac w6 hB hL hd hI
                have b58 : ac.tmps[58]?.getD undef = .int .i64 (r2 : Int) := (hB.val 13 (hd ⟨13, .data⟩ (by simp) rfl) 58 rfl).trans (hI.1 13 (by decide) (by decide) (hd ⟨13, .data⟩ (by simp) rfl))
                have b59 : ac.tmps[59]?.getD undef = .int .i64 ((i : Int)) := (hB.val 14 (hd ⟨14, .data⟩ (by simp) rfl) 59 rfl).trans (hI.1 14 (by decide) (by decide) (hd ⟨14, .data⟩ (by simp) rfl))
                exact stepI_run (v := .int .i64 (p2 : Int)) rfl (by simp [execOp, go_sem, Act.eval, b58, b59, HS3.out, HS4.out]) (hI.step 15 (by decide) (by decide))
              · intro L vs ac w6 hB hL hd hI
                have b9 : ac.tmps[9]?.getD undef = .int .i64 ((i : Int)) := hB.at 9 (by kernel_rfl)
                exact stepI_run (v := .int .i64 ((i : Int))) rfl (by simp [execOp, go_sem, Act.eval, b9]) (hI.step 16 (by decide) (by decide))
              · intro L vs ac w6 hB hL hd hI
                have b1 : ac.tmps[1]?.getD undef = .int .i64 ((x : Int)) := hB.at 1 (by kernel_rfl)
                exact stepI_run (v := .int .i64 ((x : Int))) rfl (by simp [execOp, go_sem, Act.eval, b1]) (hI.step 17 (by decide) (by decide))
              · intro L vs ac w6 hB hL hd hI
                have b62 : ac.tmps[62]?.getD undef = .int .i64 ((x : Int)) := (hB.val 17 (hd ⟨17, .data⟩ (by simp) rfl) 62 rfl).trans (hI.1 17 (by decide) (by decide) (hd ⟨17, .data⟩ (by simp) rfl))
                exact stepI_run (v := .int .i64 ((x : Int) + 1)) rfl (by simp [execOp, go_sem, Act.eval, b62, HW.out]) (hI.step 18 (by decide) (by decide))
              · intro L vs ac w6 hB hL hd hI
                have b61 : ac.tmps[61]?.getD undef = .int .i64 ((i : Int)) := (hB.val 16 (hd ⟨16, .data⟩ (by simp) rfl) 61 rfl).trans (hI.1 16 (by decide) (by decide) (hd ⟨16, .data⟩ (by simp) rfl))
                have b63 : ac.tmps[63]?.getD undef = .int .i64 ((x : Int) + 1) := (hB.val 18 (hd ⟨18, .data⟩ (by simp) rfl) 63 rfl).trans (hI.1 18 (by decide) (by decide) (hd ⟨18, .data⟩ (by simp) rfl))
                have hl1 : L 25 = false := hB.wait 19 25 hL (by kernel_rfl)
                have hl2 : L 27 = false := hB.wait 19 27 hL (by kernel_rfl)
                refine stepI_call (f := 48) (args := #[.int .i64 ((i : Int)), .int .i64 ((x : Int) + 1)]) rfl (by simp [go_sem, b61, b63]) ?_
                refine (HFU1.out w6).mono ?_
                rintro e w9 ⟨rfl, h9⟩
                exact ⟨_, rfl, hI.grow (by decide) (by decide) hl1 hl2 h9⟩
              · intro L vs ac w6 hB hL hd hI
                have b1 : ac.tmps[1]?.getD undef = .int .i64 ((x : Int)) := hB.at 1 (by kernel_rfl)
                exact stepI_run (v := .int .i64 ((x : Int))) rfl (by simp [execOp, go_sem, Act.eval, b1]) (hI.step 20 (by decide) (by decide))
              · intro L vs ac w6 hB hL hd hI
                have b65 : ac.tmps[65]?.getD undef = .int .i64 ((x : Int)) := (hB.val 20 (hd ⟨20, .data⟩ (by simp) rfl) 65 rfl).trans (hI.1 20 (by decide) (by decide) (hd ⟨20, .data⟩ (by simp) rfl))
                exact stepI_run (v := .int .i64 ((x : Int) + 1)) rfl (by simp [execOp, go_sem, Act.eval, b65, HW.out]) (hI.step 21 (by decide) (by decide))
              · intro L vs ac w6 hB hL hd hI
                have b9 : ac.tmps[9]?.getD undef = .int .i64 ((i : Int)) := hB.at 9 (by kernel_rfl)
                exact stepI_run (v := .int .i64 ((i : Int))) rfl (by simp [execOp, go_sem, Act.eval, b9]) (hI.step 22 (by decide) (by decide))
              · intro L vs ac w6 hB hL hd hI
                have b66 : ac.tmps[66]?.getD undef = .int .i64 ((x : Int) + 1) := (hB.val 21 (hd ⟨21, .data⟩ (by simp) rfl) 66 rfl).trans (hI.1 21 (by decide) (by decide) (hd ⟨21, .data⟩ (by simp) rfl))
                have b67 : ac.tmps[67]?.getD undef = .int .i64 ((i : Int)) := (hB.val 22 (hd ⟨22, .data⟩ (by simp) rfl) 67 rfl).trans (hI.1 22 (by decide) (by decide) (hd ⟨22, .data⟩ (by simp) rfl))
                have hl1 : L 25 = false := hB.wait 23 25 hL (by kernel_rfl)
                have hl2 : L 27 = false := hB.wait 23 27 hL (by kernel_rfl)
                refine stepI_call (f := 48) (args := #[.int .i64 ((x : Int) + 1), .int .i64 ((i : Int))]) rfl (by simp [go_sem, b66, b67]) ?_
                refine (HFU2.out w6).mono ?_
                rintro e w9 ⟨rfl, h9⟩
                exact ⟨_, rfl, hI.grow (by decide) (by decide) hl1 hl2 h9⟩
              · intro L vs ac w6 hB hL hd hI
                have b46 : ac.tmps[46]?.getD undef = .slice (some ⟨g, 0, none⟩) q c4 := (hB.val 1 (hd ⟨1, .data⟩ (by simp) rfl) 46 rfl).trans (hI.1 1 (by decide) (by decide) (hd ⟨1, .data⟩ (by simp) rfl))
                have b52 : ac.tmps[52]?.getD undef = .int .i64 (p1 : Int) := (hB.val 7 (hd ⟨7, .data⟩ (by simp) rfl) 52 rfl).trans (hI.1 7 (by decide) (by decide) (hd ⟨7, .data⟩ (by simp) rfl))
                exact stepI_run (v := .pointer (some ⟨g, p1, none⟩)) rfl (by simp [execOp, go_sem, Act.eval, b46, b52, hp1, addr_lit0]) (hI.step 24 (by decide) (by decide))
              · intro L vs ac w6 hB hL hd hI
                have b69 : ac.tmps[69]?.getD undef = .pointer (some ⟨g, p1, none⟩) := (hB.val 24 (hd ⟨24, .data⟩ (by simp) rfl) 69 rfl).trans (hI.1 24 (by decide) (by decide) (hd ⟨24, .data⟩ (by simp) rfl))
                have b64 : ac.tmps[64]?.getD undef = .int .i64 (y1) := (hB.val 19 (hd ⟨19, .data⟩ (by simp) rfl) 64 rfl).trans (hI.1 19 (by decide) (by decide) (hd ⟨19, .data⟩ (by simp) rfl))
                have hl2 : L 27 = false := hB.wait 25 27 hL (by kernel_rfl)
                have hx := hI.ext hL hl2
                have f1 := (HO.out.keep hx).frozenAt p1
                have q1 := own_at (HO.out.keep hx) p1 hl1p
                exact stepI_skip (w' := w6.setCell ⟨g, p1, none⟩ (.int .i64 (y1))) rfl (by simp [execOp, go_sem, Act.eval, b69, b64, f1, q1]) (hI.put1 (by decide) hL hl2)
              · intro L vs ac w6 hB hL hd hI
                have b54 : ac.tmps[54]?.getD undef = .slice (some ⟨g, 0, none⟩) q c4 := (hB.val 9 (hd ⟨9, .data⟩ (by simp) rfl) 54 rfl).trans (hI.1 9 (by decide) (by decide) (hd ⟨9, .data⟩ (by simp) rfl))
                have b60 : ac.tmps[60]?.getD undef = .int .i64 (p2 : Int) := (hB.val 15 (hd ⟨15, .data⟩ (by simp) rfl) 60 rfl).trans (hI.1 15 (by decide) (by decide) (hd ⟨15, .data⟩ (by simp) rfl))
                exact stepI_run (v := .pointer (some ⟨g, p2, none⟩)) rfl (by simp [execOp, go_sem, Act.eval, b54, b60, hp2, addr_lit0]) (hI.step 26 (by decide) (by decide))
              · intro L vs ac w6 hB hL hd hI
                have b70 : ac.tmps[70]?.getD undef = .pointer (some ⟨g, p2, none⟩) := (hB.val 26 (hd ⟨26, .data⟩ (by simp) rfl) 70 rfl).trans (hI.1 26 (by decide) (by decide) (hd ⟨26, .data⟩ (by simp) rfl))
                have b68 : ac.tmps[68]?.getD undef = .int .i64 (y2) := (hB.val 23 (hd ⟨23, .data⟩ (by simp) rfl) 68 rfl).trans (hI.1 23 (by decide) (by decide) (hd ⟨23, .data⟩ (by simp) rfl))
                have hl1 : L 25 = true := hd ⟨25, .phase⟩ (by simp) rfl
                obtain ⟨w8, hx, rfl⟩ := hI.mid hl1 hL
                have hou := own_upd1 (p := p1) (x := y1) HO.out hx
                have f1 := hou.frozenAt p2
                have q1 := own_at hou p2 (by rw [List.length_set]; exact hl2p)
                exact stepI_skip (w' := (w8.setCell ⟨g, p1, none⟩ (.int .i64 (y1))).setCell ⟨g, p2, none⟩ (.int .i64 (y2))) rfl (by simp [execOp, go_sem, Act.eval, b70, b68, f1, q1]) (hI.put2 (by decide) hl1 hL)
            · intro L vs w7 hall hI
              obtain ⟨w6, HEXT, hw7⟩ := hI.fin (hall 25 (by decide)) (hall 27 (by decide))
              subst hw7
              clear hI hall
              simp only [putAll, Act.put, List.setIfInBounds_toArray, List.set_cons_zero, List.set_cons_succ, Nat.zero_add, Nat.reduceAdd]
              have HO2 := Lib.hid (show Own ((w6.setCell ⟨g, p1, none⟩ (.int .i64 y1)).setCell ⟨g, p2, none⟩ (.int .i64 y2)) B (.slice (some ⟨g, 0, none⟩) q c4) q (fgR (m + 1) cl x (i + 1)) from by
                rw [← HFS.out]
                exact own_put (own_upd1 (p := p1) (x := y1) HO.out HEXT.out) p2 y2)
              have HBE2 := Lib.hid (((HBE.out.trans (HEXT.out.mono HBE.out.size)).setCell (p := ⟨g, p1, none⟩) (by show w.heap.size ≤ g; exact hgw) (.int .i64 y1)).setCell (p := ⟨g, p2, none⟩) (by show w.heap.size ≤ g; exact hgw) (.int .i64 y2))
              have HRB2 := Lib.hid (((HRB.out.below HEXT.out).other (c := g) (i := p1) (u := .int .i64 y1) (by omega)).other (c := g) (i := p2) (u := .int .i64 y2) (by omega))
              have HNB2 := Lib.hid (((HNB.out.below HEXT.out).other (c := g) (i := p1) (u := .int .i64 y1) (by omega)).other (c := g) (i := p2) (u := .int .i64 y2) (by omega))
              clear HO HBE HRB HNB HEXT HFS HFU1 HFU2 hp1 hp2 hl1p hl2p HW HR1 HR2 HR3 HR4 HR5 HS1 HS2 HS3 HS4
              go_wp2_with fail
              go_roundw
              case rel => exact ⟨i + 1, by omega, by go_num, HO2, HBE2, HRB2, HNB2⟩
              case measure => simp [intOf]; omega
          · obtain rfl : i = m + 1 := by omega
            have HO2 := Lib.hid (show Own wr B (.slice (some ⟨g, 0, none⟩) q c4) q (flat (m + 1) (fgB (m + 1) cl x)) from by rw [← fgR_all]; exact HO.out)
            have hfl : (flat (m + 1) (fgB (m + 1) cl x)).length = q := by rw [flat_len, HQ.out]
            obtain ⟨x0, x1⟩ := HNB.out.k2
            clear HO
            go_wp2_with fail
            refine (rclose_any m _ _ wr HO2.out.sl (by rw [hfl]; omega)).mono ?_; rintro e w7 ⟨v, rfl, ho, hb⟩
            rw [HCF.out] at ho ⊢
            obtain ⟨A7, c7, rfl⟩ := own_shapeG ho
            dsimp only at ho ⊢
            have HY8 := Lib.hid ((HRB.out.below hb).alloc (.cells #[.int .i64 (m : Int), .slice A7 c2.length c7] 24))
            have HB8 := Lib.hid ((HBE.out.trans (hb.mono HBE.out.size)).alloc (HBE.out.trans (hb.mono HBE.out.size)).size (.cells #[.int .i64 (m : Int), .slice A7 c2.length c7] 24))
            have HO8 := Lib.hid (show Own (w7.alloc (.cells #[.int .i64 (m : Int), .slice A7 c2.length c7] 24)) _ _ _ _ from Own.keep ho (al1 w7 _))
            have HC8 := Lib.hid (Bx.new w7 24 #[.int .i64 (m : Int), .slice A7 c2.length c7])
            have hs6 := HRB.out.lt
            clear ho hb HRB HNB HO2 x0 x1
            obtain ⟨x0, x1⟩ := HC8.out.k2
            obtain ⟨y0, y1⟩ := HY8.out.k2
            obtain ⟨f0, f1⟩ := HY8.out.f2
            go_wp2_with fail
            refine bodyPost_ret (v := .tuple #[.agg #[.int .i64 (m : Int), .slice A7 c2.length c7], .int .i64 0]) (bx_ret2 ((HY8.out.set 0 _).set 1 _) Try.results38 _ rfl Try.underlying24 rfl (by kernel_rfl)) rfl ?_
            exact zp_fin HR.out (by omega) HB8.out HBE.out.size HO8.out (HO8.out.lt (.inl hs6))
    · have HR := Lib.hid (frgZ_out hp hx)
      by_cases hx0 : X < 0
      · have dx1 : decide (X < 0) = true := decide_eq_true hx0
        clear hx hp
        go_enter Try.func38, Try.ntmps38
        go_wp2_with fail
        refine (rvalid_any m _ b _ (H.out.below (al2 w _ _)) hl).mono ?_; rintro e w1 ⟨rfl, hb⟩; rw [Hp.out]
        obtain ⟨HX, HY, HB⟩ := two_boxes rfl rfl hb
        obtain ⟨x0, x1⟩ := HX.out.k2
        obtain ⟨y0, y1⟩ := HY.out.k2
        obtain ⟨f0, f1⟩ := HY.out.f2
        clear hb
        go_wp2_with fail
        refine bodyPost_ret (v := .tuple #[.agg #[.int .i64 0, .slice none 0 0], .int .i64 2]) (bx_ret2 ((HY.out.set 0 _).set 1 _) Try.results38 _ rfl Try.underlying24 rfl (by kernel_rfl)) rfl ?_
        exact zp_zero HR.out (by omega) HB.out
      · have dx1 : decide (X < 0) = false := decide_eq_false hx0
        have dx2 : decide ((m : Int) ≤ X) = true := decide_eq_true (by omega)
        clear hx hp
        go_enter Try.func38, Try.ntmps38
        go_wp2_with fail
        refine (rvalid_any m _ b _ (H.out.below (al2 w _ _)) hl).mono ?_; rintro e w1 ⟨rfl, hb⟩; rw [Hp.out]
        obtain ⟨HX, HY, HB⟩ := two_boxes rfl rfl hb
        obtain ⟨x0, x1⟩ := HX.out.k2
        obtain ⟨y0, y1⟩ := HY.out.k2
        obtain ⟨f0, f1⟩ := HY.out.f2
        clear hb
        go_wp2_with fail
        refine bodyPost_ret (v := .tuple #[.agg #[.int .i64 0, .slice none 0 0], .int .i64 2]) (bx_ret2 ((HY.out.set 0 _).set 1 _) Try.results38 _ rfl Try.underlying24 rfl (by kernel_rfl)) rfl ?_
        exact zp_zero HR.out (by omega) HB.out
end Go.Proofs.Yteoddcamicmapaa
