/- The contract of the reference's Open. -/
import Derived.Test.YtkjconhhandhlabSumRef
import Derived.Test.YtkjconhhandhlabSumOpenC
import Derived.Deep.RegionWith
import Derived.BigRegion
namespace Go.Proofs.Ytkjconhhandhlab
open Go.RowKit

theorem ropen_short (A : Option Addr) (c : Nat) (xs : List Nat) (w : World) (hl : xs.length < 8) :
    Calls Try.prog 16 #[.slice A xs.length c] w (OpenPost w 4 []) := by
  go_enter Try.func16, Try.ntmps16
  go_wp2
  go_ret2
  exact ⟨_, rfl, World.ownsRow_nil _ _ _ _, Below.refl _ _⟩

theorem below_ext {a b c : World} (h : Below a.heap.size a b) (k : Below b.heap.size b c) : Below a.heap.size a c := h.trans (k.mono h.size)
theorem own_kept {w w' : World} {B : Nat} {e : TypeId} {v : Value} {n : Nat} {xs : List Value} (h : w.ownsRow B e 1 v n xs) (hb : Below w.heap.size w w') : w'.ownsRow B e 1 v n xs := by
  refine ⟨h.1, ?_⟩
  rcases h.2 with h | ⟨g, cap, cur, h1, h2, h3, h4⟩
  · exact .inl h
  · exact .inr ⟨g, cap, cur, h1, h2, (hb.block g (lt_of_some h3)).trans h3, h4⟩
theorem conv_str (v : Value) (xs : List Nat) (w : World) (h : Bsl w v xs) : (convert 23 9 v).run Try.prog w = .ok (.string (strOf xs)) w :=
  run_str (P := Try.prog) w 23 5 9 Try.underlying23 Try.underlying5 Try.underlying9 v xs h

set_option maxHeartbeats 1000000 in
theorem ropen_long (ad : Addr) (c m : Nat) (p t : List Nat) (hm : p.length = m) (ht : t.length = 8) (w : World) (hx : Bsl w (.slice (some ad) (m + 8) c) (p ++ t)) (hb : Byt p) (hbt : Byt t) (hl : m ≤ 140737488350000) (b : Bool) (hd : b = decide (t = bts 8 (fnv fbase p))) :
    Calls Try.prog 16 #[.slice (some ad) (m + 8) c] w (OpenB w b p) := by
  have hc := hx.cap.1
  have Hp := Lib.hid (hx.front hm)
  have Ht := Lib.hid (hx.rear hm ht)
  clear hx
  have Hm := Lib.hid hm; clear hm
  have Ht8 := Lib.hid ht; clear ht
  have Hd := Lib.hid hd; clear hd
  have Hb := Lib.hid hb; clear hb
  have Hbt := Lib.hid hbt; clear hbt
  have i1 : (m : Int) ≤ (m : Int) + 8 := by omega
  have i2 : (m : Int) + 8 ≤ (c : Int) := by omega
  have i3 : ¬ c = m := by omega
  go_enter Try.func16, Try.ntmps16
  go_wp2_with (at_builtin; refine appB rfl (.tmp 8) (.tmp 13) 23 rfl info_u8 Try.underlying23 w.heap.size _ 0 [] rfl (own_lit w #[] 0 [] rfl rfl (by decide)) _ p rfl (Hp.out.alloc _) (by have := Hm.out; unfold Room2; omega) (by simp) ?_; intro v1 w1 hown1 hf1; rw [Nat.zero_add, List.nil_append] at hown1)
  have hb1 : Below w.heap.size w w1 := ((Below.refl _ w).alloc (Nat.le_refl _) _).trans (hf1.below (by simp))
  have Hb1 := Lib.hid hb1
  have Hown1 := Lib.hid hown1
  have hconv : ∀ w', Below w1.heap.size w1 w' → (convert 23 9 (.slice (some (ad.add m)) 8 (c - m))).run Try.prog w' = .ok (.string (strOf t)) w' :=
    fun w' h => conv_str _ t w' ((Ht.out.below Hb1.out).below h)
  have hpay : ∀ w', Below w1.heap.size w1 w' → Bsl w' v1 p := fun w' h => (Bsl.of_own Hown1.out).below h
  have Hconv := Lib.hid hconv
  have Hpay := Lib.hid hpay
  clear hconv hpay hb1 hown1 hf1
  obtain ⟨q, hq⟩ : ∃ q, q = fnv fbase p := ⟨_, rfl⟩
  have Hq := Lib.hid hq
  have Hu := Lib.hid (show U64 q by rw [hq]; exact fnv_lt _ _ (by unfold fbase; decide)); clear hq
  have i0 : (0 : Int) ≤ (m : Int) := by omega
  have i4 : IntKind.i64.wrap ((m : Int) + 8 - 8) = (m : Int) := by rw [IntKind.wrap_i64]; omega
  have i5 : IntKind.i64.wrap (m : Int) = (m : Int) := by rw [IntKind.wrap_i64]; omega
  have t1 := Hconv.out w1.drew (Below.refl _ _).drew
  go_region_with (first
      | (go_at_call 12; refine (rof_is _ p w1.drew q (Hpay.out _ (Below.refl _ _).drew) Hb.out ?_ Hq.out).mono ?_; (clear i4 i5; have := Hm.out; unfold Room2; omega); rintro e w' ⟨rfl, rfl⟩)
      | (go_at_call 26; refine (eight_any q w1.drew Hu.out).mono ?_; rintro e w5 ⟨v5, rfl, hown5, hb5⟩; have hb6 : Below w1.heap.size w1 w5 := below_ext (Below.refl _ _).drew hb5; have r5 := conv_str v5 _ w5 (Bsl.of_own hown5); have t5 := Hconv.out w5 hb6))
  all_goals
    have hcmp : ((strOf (bts 8 q)).toList == (strOf t).toList) = b := by
      rw [strOf_beq (bts_byt _ _) Hbt.out, Hd.out, ← Hq.out]
      exact decide_eq_decide.2 ⟨Eq.symm, Eq.symm⟩
    have hend : Below w.heap.size w w5 := below_ext Hb1.out hb6
    have Hend := Lib.hid hend
    have Hown7 := Lib.hid (own_kept Hown1.out hb6)
    clear hend hown5 hb5 hb6 r5 t5 t1 i4 i5
    cases b with
    | true =>
      have hcmp2 : (!((strOf (bts 8 q)).toList == (strOf t).toList)) = false := by rw [hcmp]; rfl
      clear hcmp
      have Hc := Lib.hid hcmp2
      clear hcmp2
      go_wp2
      · have hno : (!((strOf (bts 8 q)).toList == (strOf t).toList)) = true := by assumption
        exact absurd (Hc.out.symm.trans hno) (by decide)
      · go_ret2
        exact ⟨_, rfl, Hown7.out, Hend.out⟩
    | false =>
      have hcmp2 : (!((strOf (bts 8 q)).toList == (strOf t).toList)) = true := by rw [hcmp]; rfl
      clear hcmp
      have Hc := Lib.hid hcmp2
      clear hcmp2
      go_wp2
      · go_ret2
        exact ⟨_, rfl, World.ownsRow_nil _ _ _ _, Hend.out⟩
      · have hno : (!((strOf (bts 8 q)).toList == (strOf t).toList)) = false := by assumption
        exact absurd (Hc.out.symm.trans hno) (by decide)
end Go.Proofs.Ytkjconhhandhlab
