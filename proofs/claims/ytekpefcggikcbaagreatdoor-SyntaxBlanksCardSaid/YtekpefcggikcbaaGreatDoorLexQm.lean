/- Layer 9: texts quoted, plainly. -/
import Derived.Test.YtekpefcggikcbaaGreatDoorMLexPl
namespace Go.Proofs.YtekpefcggikcbaaGreatDoor
open Go.RowKit

def escB (c : UInt8) : List UInt8 := if cE c.toNat = true then [92, c] else [c]
def esc (l : List UInt8) : List UInt8 := l.flatMap escB
def qt (l : List UInt8) : List UInt8 := 34 :: esc l ++ [34]
theorem esc_len (l : List UInt8) : (esc l).length ≤ 2 * l.length := by
  induction l with
  | nil => simp [esc]
  | cons c r ih =>
    have : (escB c).length ≤ 2 := by unfold escB; split <;> simp
    unfold esc at ih ⊢
    rw [List.flatMap_cons, List.length_append, List.length_cons]; omega
theorem esc_snoc {l : List UInt8} {k : Nat} {c : UInt8} (h : l[k]? = some c) : esc (l.take (k + 1)) = esc (l.take k) ++ escB c := by
  unfold esc
  rw [List.take_add_one, h, List.flatMap_append]; simp
theorem txt_esc : ∀ (l r : List UInt8), (∀ c ∈ l, 32 ≤ c.toNat ∧ c.toNat ≤ 126) → txt (esc l ++ 34 :: r) = some (l, (esc l).length + 1)
  | [], r, _ => by
    show txt (34 :: r) = some ([], 1)
    rw [txt_cons, if_pos (by decide)]
  | c :: l, r, h => by
    have hc := h c (by simp)
    have ih := txt_esc l r fun x hx => h x (by simp [hx])
    have e : esc (c :: l) = escB c ++ esc l := rfl
    rw [e]
    unfold escB
    by_cases he : cE c.toNat = true
    · rw [if_pos he]
      show txt (92 :: c :: (esc l ++ 34 :: r)) = some (c :: l, (92 :: c :: esc l).length + 1)
      rw [txt_cons, if_neg (by decide), if_pos (by decide)]
      simp only
      rw [if_pos he, ih]; rfl
    · rw [if_neg he]
      show txt (c :: (esc l ++ 34 :: r)) = some (c :: l, (c :: esc l).length + 1)
      have h1 : ¬ c.toNat = 34 := fun h => he (by simp [cE, h])
      have h2 : ¬ c.toNat = 92 := fun h => he (by simp [cE, h])
      rw [txt_cons, if_neg h1, if_neg h2, if_pos hc, ih]; rfl
theorem tk_quote (l r : List UInt8) (h : ∀ c ∈ l, 32 ≤ c.toNat ∧ c.toNat ≤ 126) (hl : l.length ≤ 40) : tk (34 :: (esc l ++ 34 :: r)) = .ok 3 l 0 ((esc l).length + 2) := by
  unfold tk
  have e : nxt (34 :: (esc l ++ 34 :: r)) = 34 := rfl
  rw [e, if_neg (by decide), if_neg (by decide), if_pos rfl]
  unfold tkText
  rw [List.tail_cons, txt_esc l r h]
  simp only
  rw [if_neg (by omega)]
end Go.Proofs.YtekpefcggikcbaaGreatDoor
