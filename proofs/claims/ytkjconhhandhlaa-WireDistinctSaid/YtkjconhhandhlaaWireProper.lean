/- The contract of the reference's Proper. -/
import Derived.Test.YtkjconhhandhlaaVals
namespace Go.Proofs.Ytkjconhhandhlaa
open Go.RowKit

def propB (x : Vl) : Bool := (decide (x.1 = 1) && decide (x.2.2.size = 0)) || (decide (x.1 = 2) && decide (x.2.1 = 0))
def ProperPost (w : World) (b : Bool) (e : Ending) (w' : World) : Prop := e = .returned (.bool b) ∧ Below w.heap.size w w'
theorem str_nil {s : ByteArray} (h : s.size = 0) : s.toList = [] := by
  rw [ByteArray.toList_eq]
  exact List.eq_nil_of_length_eq_zero (by rw [Array.length_toList]; exact h)
theorem str_ne {s : ByteArray} (h : ¬ s.size = 0) : ¬ s.toList = [] := by
  rw [ByteArray.toList_eq]
  intro h2
  exact h (by rw [ByteArray.size, ← Array.length_toList, h2]; rfl)

theorem proper_any (k n : Int) (s : ByteArray) (w : World) (b : Bool) (hb : b = propB (k, n, s)) :
    Calls Try.prog 33 #[.agg #[.int .i64 k, .int .i64 n, .string s]] w (ProperPost w b) := by
  have Hb := Lib.hid hb; clear hb
  by_cases h1 : k = 1
  · subst h1
    by_cases hs : s.size = 0
    · have hnil := str_nil hs
      have hb : b = true := by rw [Hb.out]; simp [propB, hs]
      have HB := Lib.hid hb; clear hb Hb hs
      go_enter Try.func33, Try.ntmps33
      go_wp2
      go_ret
      exact ⟨by rw [HB.out]; rfl, (Below.refl _ w).alloc (Nat.le_refl _) _⟩
    · have hnil := str_ne hs
      have hne : s.toList.isEmpty = false := by simpa using hnil
      have hb : b = false := by rw [Hb.out]; simp [propB, hs]
      have HB := Lib.hid hb; clear hb Hb hs
      go_enter Try.func33, Try.ntmps33
      go_wp2
      go_ret
      exact ⟨by rw [HB.out]; rfl, (Below.refl _ w).alloc (Nat.le_refl _) _⟩
  · have t1 : (k == 1) = false := by rw [beq_eq_false_iff_ne]; exact h1
    by_cases h2 : k = 2
    · subst h2
      clear t1 h1
      by_cases hn : n = 0
      · subst hn
        have HB := Lib.hid (show b = true by rw [Hb.out]; simp [propB]); clear Hb
        go_enter Try.func33, Try.ntmps33
        go_wp2
        go_ret
        exact ⟨by rw [HB.out]; rfl, (Below.refl _ w).alloc (Nat.le_refl _) _⟩
      · have tn : (n == 0) = false := by rw [beq_eq_false_iff_ne]; exact hn
        have HB := Lib.hid (show b = false by rw [Hb.out]; simp [propB, hn]); clear Hb hn
        go_enter Try.func33, Try.ntmps33
        go_wp2
        go_ret
        exact ⟨by rw [HB.out]; rfl, (Below.refl _ w).alloc (Nat.le_refl _) _⟩
    · have t2 : (k == 2) = false := by rw [beq_eq_false_iff_ne]; exact h2
      have HB := Lib.hid (show b = false by rw [Hb.out]; simp [propB, h1, h2]); clear Hb h1 h2
      go_enter Try.func33, Try.ntmps33
      go_wp2
      go_ret
      exact ⟨by rw [HB.out]; rfl, (Below.refl _ w).alloc (Nat.le_refl _) _⟩
end Go.Proofs.Ytkjconhhandhlaa
