/- Layer 5: paths of an automaton and of its reversal. -/
import Derived.Test.YtcpjpogglecddaaDoorNfaCloL
namespace Go.Proofs.YtcpjpogglecddaaDoor
open Go.RowKit

/-- A path of arcs from a to b by a word. -/
inductive Pt (ar : List Ac) : Int → List Int → Int → Prop
  | nil (a : Int) : Pt ar a [] a
  | eps {a b c : Int} {w : List Int} : Pt ar a w b → (b, 0, c) ∈ ar → Pt ar a w c
  | step {a b d c : Int} {w : List Int} : Pt ar a w b → 1 ≤ c → c ≤ 10000 → (b, c, d) ∈ ar → Pt ar a (w ++ [c]) d
section
variable {ar br : List Ac} {a b c d : Int} {w : List Int} {st : List Int}
theorem Pt.cl {Q : Int → Prop} (hQ : ∀ x, Q x ↔ ∃ a, a ∈ st ∧ Pt ar a w x) {n : Int} : Cl ar Q n ↔ ∃ a, a ∈ st ∧ Pt ar a w n := by
  constructor
  · intro h
    induction h with
    | base h => exact (hQ _).1 h
    | step _ he ih =>
      obtain ⟨a, h1, h2⟩ := ih
      exact ⟨a, h1, .eps h2 he⟩
  · rintro ⟨a, h1, h2⟩
    exact .base ((hQ n).2 ⟨a, h1, h2⟩)
theorem pt_last (h : Pt ar a w b) : ∀ (v : List Int) (c : Int), w = v ++ [c] → 1 ≤ c ∧ c ≤ 10000 ∧ ∃ p q, Pt ar a v p ∧ (p, c, q) ∈ ar ∧ Pt ar q [] b := by
  induction h with
  | nil => intro v c e; simp at e
  | eps _ he ih =>
    intro v c e
    obtain ⟨g1, g2, p, q, g3, g4, g5⟩ := ih v c e
    exact ⟨g1, g2, p, q, g3, g4, .eps g5 he⟩
  | step h1 h2 h3 h4 _ =>
    intro v c e
    obtain ⟨rfl, e2⟩ := List.append_inj' e rfl
    simp only [List.cons.injEq, and_true] at e2
    subst e2
    exact ⟨h2, h3, _, _, h1, h4, .nil _⟩
theorem pt_app (h : Pt ar a w b) {v : List Int} (k : Pt ar b v c) : Pt ar a (w ++ v) c := by
  induction k with
  | nil => rw [List.append_nil]; exact h
  | eps _ he ih => exact .eps ih he
  | step _ h2 h3 h4 ih => rw [← List.append_assoc]; exact .step ih h2 h3 h4
theorem pt_rev (hr : ∀ x y z, (x, y, z) ∈ ar → (z, y, x) ∈ br) (h : Pt ar a w b) : Pt br b w.reverse a := by
  induction h with
  | nil => exact .nil _
  | eps _ he ih =>
    have := pt_app (Pt.eps (.nil _) (hr _ _ _ he)) ih
    simpa using this
  | step _ h2 h3 h4 ih =>
    have := pt_app (Pt.step (.nil _) h2 h3 (hr _ _ _ h4)) ih
    simpa using this
theorem pt_nil_cl {n : Int} : Cl ar (fun x => x ∈ st) n ↔ ∃ a, a ∈ st ∧ Pt ar a [] n := by
  constructor
  · intro h
    induction h with
    | base h => exact ⟨_, h, .nil _⟩
    | step _ he ih =>
      obtain ⟨a, h1, h2⟩ := ih
      exact ⟨a, h1, .eps h2 he⟩
  · rintro ⟨a, h1, h2⟩
    generalize hw : ([] : List Int) = v at h2
    induction h2 with
    | nil => exact .base h1
    | eps _ he ih => exact .step (ih hw) he
    | step => simp at hw
theorem run_pt : ∀ (word : List Int) (n : Int), Run ar (Cl ar (fun x => x ∈ st)) word n ↔ ∃ a, a ∈ st ∧ Pt ar a word n := by
  intro word
  generalize hl : word.length = l
  induction l generalizing word with
  | zero =>
    intro n
    obtain rfl := List.eq_nil_of_length_eq_zero hl
    exact pt_nil_cl
  | succ l ih =>
    intro n
    rcases List.eq_nil_or_concat word with rfl | ⟨v, c, rfl⟩
    · simp at hl
    · rw [List.concat_eq_append] at hl ⊢
      have ih := ih v (by simp at hl; omega)
      have e : Run ar (Cl ar (fun x => x ∈ st)) (v ++ [c]) n ↔ Sp ar (Run ar (Cl ar (fun x => x ∈ st)) v) c n := by
        unfold Run; rw [List.foldl_append]; exact Iff.rfl
      rw [e]
      clear e
      constructor
      · intro h
        unfold Sp at h
        induction h with
        | base h =>
          obtain ⟨h1, h2, m, h3, h4⟩ := h
          obtain ⟨a, g1, g2⟩ := (ih m).1 h3
          exact ⟨a, g1, .step g2 h1 h2 h4⟩
        | step _ he ih2 =>
          obtain ⟨a, g1, g2⟩ := ih2
          exact ⟨a, g1, .eps g2 he⟩
      · rintro ⟨a, g1, g2⟩
        obtain ⟨h1, h2, p, q, h3, h4, h5⟩ := pt_last g2 v c rfl
        have hq : Sp ar (Run ar (Cl ar (fun x => x ∈ st)) v) c q := .base ⟨h1, h2, p, (ih p).2 ⟨a, g1, h3⟩, h4⟩
        exact Cl.idem.1 ((pt_nil_cl (st := [q])).2 ⟨q, by simp, h5⟩ |>.mono fun x hx => by rw [List.mem_singleton.1 hx]; exact hq)
end
/-- What the reversal accepts. -/
theorem acc_rev {S : Nat} {st st2 : List Int} {fin fin2 : List Bool} {ar ar2 : List Ac} (hv : VN S st fin ar) (hst : ∀ n : Int, n ∈ st2 ↔ ∃ k : Nat, n = k ∧ fin[k]?.getD false = true) (hfin : ∀ k : Nat, fin2[k]?.getD false = true ↔ (k : Int) ∈ st) (har : ∀ x y z, (x, y, z) ∈ ar ↔ (z, y, x) ∈ ar2) (word : List Int) :
    AccP st fin ar word ↔ AccP st2 fin2 ar2 word.reverse := by
  unfold AccP
  constructor
  · rintro ⟨n, h1, h2⟩
    obtain ⟨a, g1, g2⟩ := (run_pt word n).1 h1
    obtain ⟨k, rfl⟩ : ∃ k : Nat, a = k := ⟨a.toNat, by have := (hv.bds a g1).1; omega⟩
    exact ⟨k, (run_pt _ _).2 ⟨n, (hst n).2 ⟨n, rfl, h2⟩, pt_rev (fun x y z => (har x y z).1) g2⟩, (hfin k).2 g1⟩
  · rintro ⟨k, h1, h2⟩
    obtain ⟨a, g1, g2⟩ := (run_pt _ _).1 h1
    obtain ⟨n, rfl, g3⟩ := (hst a).1 g1
    have := pt_rev (ar := ar2) (br := ar) (fun x y z => (har z y x).2) g2
    rw [List.reverse_reverse] at this
    exact ⟨n, (run_pt _ _).2 ⟨k, (hfin k).1 h2, this⟩, g3⟩
end Go.Proofs.YtcpjpogglecddaaDoor
