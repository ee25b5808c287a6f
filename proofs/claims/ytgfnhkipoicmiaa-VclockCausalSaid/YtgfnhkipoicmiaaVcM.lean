/- Vector clocks as lists of numbers: what the functions answer. Of no program. -/
import Derived.Test.YtgfnhkipoicmiaaSl
namespace Go.Proofs.Ytgfnhkipoicmiaa

def InC (x : Int) : Prop := 0 ≤ x ∧ x ≤ 1099511627776
instance (x : Int) : Decidable (InC x) := by unfold InC; infer_instance
def posB (n : Int) : Bool := decide (1 ≤ n ∧ n ≤ 6)
def okB (l : List Int) : Bool := posB l.length && decide (∀ x ∈ l, InC x)
def amB (a b : List Int) : Bool := decide (a.length = b.length ∧ ∀ i, i < a.length → a.getD i 0 ≤ b.getD i 0)
def bfB (a b : List Int) : Bool := amB a b && !amB b a
def ccB (a b : List Int) : Bool := decide (a.length = b.length) && (!amB a b && !amB b a)
def eqB (a b : List Int) : Bool := amB a b && amB b a
def mx (x y : Int) : Int := if x < y then y else x
def tickR (c : List Int) (r : Int) : List Int × Int :=
  if okB c = false then ([], 1) else if r < 0 ∨ (c.length : Int) ≤ r then ([], 12) else if c.getD r.toNat 0 = 1099511627776 then ([], 6) else (c.set r.toNat (c.getD r.toNat 0 + 1), 0)
def joinR (a b : List Int) : List Int × Int := if okB a = true ∧ okB b = true ∧ a.length = b.length then (List.zipWith mx a b, 0) else ([], 1)
def recvR (a b : List Int) (r : Int) : List Int × Int := if (joinR a b).2 = 0 then tickR (joinR a b).1 r else ([], (joinR a b).2)
def zeroR (n : Int) : List Int × Int := if posB n = true then (List.replicate n.toNat 0, 0) else ([], 2)

theorem okB_iff {l : List Int} : okB l = true ↔ (1 ≤ l.length ∧ l.length ≤ 6) ∧ ∀ x ∈ l, InC x := by
  unfold okB posB
  rw [Bool.and_eq_true, decide_eq_true_iff, decide_eq_true_iff]
  constructor
  · rintro ⟨h1, h2⟩; exact ⟨by omega, h2⟩
  · rintro ⟨h1, h2⟩; exact ⟨by omega, h2⟩
theorem okB_len {l : List Int} (h : okB l = true) : 1 ≤ l.length ∧ l.length ≤ 6 := (okB_iff.1 h).1
theorem amB_iff {a b : List Int} : amB a b = true ↔ a.length = b.length ∧ ∀ i, i < a.length → a.getD i 0 ≤ b.getD i 0 := by unfold amB; rw [decide_eq_true_iff]
theorem eqB_iff {a b : List Int} : eqB a b = true ↔ a = b := by
  unfold eqB
  rw [Bool.and_eq_true, amB_iff, amB_iff]
  constructor
  · rintro ⟨⟨h1, h2⟩, _, h3⟩
    apply List.ext_getElem h1
    intro i hi1 hi2
    have e1 := h2 i hi1
    have e2 := h3 i hi2
    simp only [List.getD_eq_getElem?_getD, List.getElem?_eq_getElem hi1, List.getElem?_eq_getElem hi2, Option.getD_some] at e1 e2
    omega
  · rintro rfl
    exact ⟨⟨rfl, fun _ _ => Int.le_refl _⟩, rfl, fun _ _ => Int.le_refl _⟩
theorem eqB_self (a : List Int) : eqB a a = true := eqB_iff.2 rfl
theorem okB_nil : okB [] = false := by decide
theorem tickR_ok (c : List Int) (r : Int) : okB (tickR c r).1 = ((tickR c r).2 == 0) := by
  unfold tickR
  split
  · rfl
  split
  · rfl
  split
  · rfl
  · rename_i h1 h2 h3
    have h1 : okB c = true := by simpa using h1
    obtain ⟨h4, h5⟩ := okB_iff.1 h1
    have e : r.toNat < c.length := by omega
    have h6 : okB (c.set r.toNat (c.getD r.toNat 0 + 1)) = true := by
      refine okB_iff.2 ⟨by rw [List.length_set]; exact h4, fun x hx => ?_⟩
      rcases List.mem_or_eq_of_mem_set hx with h | h
      · exact h5 x h
      · have h7 : InC (c.getD r.toNat 0) := by
          rw [List.getD_eq_getElem?_getD, List.getElem?_eq_getElem e]
          exact h5 _ (List.getElem_mem e)
        unfold InC at h7 ⊢
        omega
    rw [h6]; rfl
theorem zip_mem {a b : List Int} {P : Int → Prop} (ha : ∀ x ∈ a, P x) (hb : ∀ x ∈ b, P x) : ∀ x ∈ List.zipWith mx a b, P x := by
  intro x hx
  obtain ⟨i, hi, rfl⟩ := List.mem_iff_getElem.1 hx
  rw [List.length_zipWith] at hi
  rw [List.getElem_zipWith]
  unfold mx
  split
  · exact hb _ (List.getElem_mem _)
  · exact ha _ (List.getElem_mem _)
theorem joinR_ok (a b : List Int) : okB (joinR a b).1 = ((joinR a b).2 == 0) := by
  unfold joinR
  split
  · rename_i h
    obtain ⟨h1, h2, h3⟩ := h
    obtain ⟨h4, h5⟩ := okB_iff.1 h1
    obtain ⟨_, h6⟩ := okB_iff.1 h2
    have : okB (List.zipWith mx a b) = true := okB_iff.2 ⟨by rw [List.length_zipWith]; omega, zip_mem h5 h6⟩
    rw [this]; rfl
  · rfl
theorem recvR_ok (a b : List Int) (r : Int) : okB (recvR a b r).1 = ((recvR a b r).2 == 0) := by
  unfold recvR
  split
  · exact tickR_ok _ _
  · rename_i h
    have : ((joinR a b).2 == 0) = false := by simpa using h
    rw [this]; exact okB_nil
theorem zeroR_ok (n : Int) : okB (zeroR n).1 = ((zeroR n).2 == 0) := by
  unfold zeroR
  split
  · rename_i h
    unfold posB at h
    rw [decide_eq_true_iff] at h
    have : okB (List.replicate n.toNat 0) = true := okB_iff.2 ⟨by rw [List.length_replicate]; omega, fun x hx => by rw [List.eq_of_mem_replicate hx]; unfold InC; omega⟩
    rw [this]; rfl
  · rfl
theorem tickR_len (c : List Int) (r : Int) : (tickR c r).1.length ≤ 6 := by
  have h := tickR_ok c r
  unfold tickR at h ⊢
  split
  · simp
  split
  · simp
  split
  · simp
  · rename_i h1 h2 h3
    have h1 : okB c = true := by simpa using h1
    have := okB_len h1
    rw [List.length_set]; omega
theorem joinR_len (a b : List Int) : (joinR a b).1.length ≤ 6 := by
  unfold joinR
  split
  · rename_i h
    have := okB_len h.1
    rw [List.length_zipWith]; omega
  · simp
theorem recvR_len (a b : List Int) (r : Int) : (recvR a b r).1.length ≤ 6 := by
  unfold recvR
  split
  · exact tickR_len _ _
  · simp
theorem zeroR_len (n : Int) : (zeroR n).1.length ≤ 6 := by
  unfold zeroR
  split
  · rename_i h
    unfold posB at h
    rw [decide_eq_true_iff] at h
    simp only [List.length_replicate]; omega
  · simp
end Go.Proofs.Ytgfnhkipoicmiaa
