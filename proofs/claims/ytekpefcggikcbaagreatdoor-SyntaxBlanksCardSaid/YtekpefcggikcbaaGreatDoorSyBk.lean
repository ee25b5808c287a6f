/- Layer 10: the tokens of a source, written with gaps in between, plainly. -/
import Derived.Test.YtekpefcggikcbaaGreatDoorMEqQ
import Derived.Test.YtekpefcggikcbaaGreatDoorLexAm
namespace Go.Proofs.YtekpefcggikcbaaGreatDoor
open Go.RowKit

/-- A gap: blanks and comments, a blank first. -/
def gapOK (g : Bs) : Prop := (∃ c r, g = c :: r ∧ Sep c) ∧ ∀ z, sk false (g ++ z) = g.length + sk false z
def gapB (i : Nat) : Bs := if i = 0 then [32] else if i = 1 then [10] else if i = 2 then [9] else if i = 3 then [32, 47, 47, 32, 97, 32, 45, 62, 32, 125, 32, 40, 10] else [13, 10]
theorem gapB_ok (i : Nat) : gapOK (gapB i) := by
  unfold gapB
  split
  · exact ⟨⟨_, _, rfl, .inr (.inl rfl)⟩, fun z => by simp [sk, cB]; omega⟩
  split
  · exact ⟨⟨_, _, rfl, .inl rfl⟩, fun z => by simp [sk, cB]; omega⟩
  split
  · exact ⟨⟨_, _, rfl, .inr (.inr (.inl rfl))⟩, fun z => by simp [sk, cB]; omega⟩
  split
  · exact ⟨⟨_, _, rfl, .inr (.inl rfl)⟩, fun z => by simp [sk, cB, nxt]; omega⟩
  · exact ⟨⟨_, _, rfl, .inr (.inr (.inr rfl))⟩, fun z => by simp [sk, cB]; omega⟩
theorem gapB_len (i : Nat) : (gapB i).length ≤ 13 := by
  unfold gapB
  split; · decide
  split; · decide
  split; · decide
  split <;> decide
/-- The tokens with gaps ahead of them. -/
def wgs (g : Nat → Bs) : Nat → List Tok → Bs
  | _, [] => []
  | i, t :: r => g i ++ (wrt t ++ wgs g (i + 1) r)
theorem wgs_snoc (g : Nat → Bs) : ∀ (ts : List Tok) (i : Nat) (t : Tok), wgs g i (ts ++ [t]) = wgs g i ts ++ (g (i + ts.length) ++ wrt t)
  | [], i, t => by simp [wgs]
  | u :: r, i, t => by
    rw [List.cons_append, wgs, wgs, wgs_snoc g r (i + 1) t, List.length_cons, show i + (r.length + 1) = i + 1 + r.length by omega]
    simp only [List.append_assoc]
theorem wgs_head {g : Nat → Bs} (hg : ∀ i, gapOK (g i)) (i : Nat) (ts : List Tok) : ∃ c z, wgs g i ts ++ [10] = c :: z ∧ Sep c := by
  cases ts with
  | nil => exact ⟨10, [], rfl, .inl rfl⟩
  | cons t r =>
    obtain ⟨c, z, h, hc⟩ := (hg i).1
    exact ⟨c, z ++ (wrt t ++ wgs g (i + 1) r) ++ [10], by rw [wgs, h]; rfl, hc⟩
theorem lxs_gap {g : Bs} (hg : gapOK g) (o : Nat) (z : Bs) : lxs o (g ++ z) = lxs (o + g.length) z := by
  rw [lxs_skip o, hg.2 z, lxs_skip (o + g.length) z, Nat.add_assoc, ← List.drop_drop, List.drop_left]
/-- What is written is read again, and is not long. -/
theorem lxs_gaps {g : Nat → Bs} (hg : ∀ i, gapOK (g i)) : ∀ o l, (lxs o l).2.2 = 0 → ∀ i o2, ∃ T, lxs o2 (wgs g i (lxs o l).1 ++ [10]) = (T, 0, 0) ∧ T.map tkv = (lxs o l).1.map tkv := by
  refine lxs_ind (P := fun _ l r => r.2.2 = 0 → ∀ i o2, ∃ T, lxs o2 (wgs g i r.1 ++ [10]) = (T, 0, 0) ∧ T.map tkv = r.1.map tkv) ?_ ?_ ?_
  · intro o l _ _ i o2
    exact ⟨[], lxs_end (by simp [wgs, sk, cB]), rfl⟩
  · intro o l e _ ht h
    exact absurd h (tk_errn ht)
  · intro o l k t v m hs ht ih
    generalize lxs (o + sk false l + m) ((l.drop (sk false l)).drop m) = R at ih ⊢
    unfold push
    by_cases h2 : R.2.2 = 0
    · rw [if_pos h2]
      intro _ i o2
      obtain ⟨c, z, hz, hc⟩ := wgs_head hg (i + 1) R.1
      obtain ⟨a1, a2, _⟩ := wrt_sep (p := o + sk false l) (sk_idem false l) ht z hc
      obtain ⟨T, hT1, hT2⟩ := ih h2 (i + 1) (o2 + (g i).length + 0 + (wrt ⟨k, t, v, o + sk false l⟩).length)
      refine ⟨⟨k, t, v, o2 + (g i).length + 0⟩ :: T, ?_, by simp only [List.map_cons, hT2]; rfl⟩
      simp only
      have hw : wgs g i (⟨k, t, v, o + sk false l⟩ :: R.1) ++ [10] = g i ++ (wrt ⟨k, t, v, o + sk false l⟩ ++ c :: z) := by
        rw [wgs, List.append_assoc, List.append_assoc, hz]
      rw [hz] at hT1
      rw [hw, lxs_gap (hg i), lxs_ok (k := k) (t := t) (v := v) (m := (wrt ⟨k, t, v, o + sk false l⟩).length) (by rw [a1, List.length_append]; simp) (by rw [a1, List.drop_zero]; exact a2), a1, List.drop_zero, List.drop_left, hT1]
      rfl
    · rw [if_neg h2]
      intro h3; exact absurd h3 h2
theorem wgs_len {g : Nat → Bs} (hg : ∀ i, (g i).length ≤ 13) : ∀ o l, ∀ i, (wgs g i (lxs o l).1).length ≤ 14 * l.length := by
  refine lxs_ind (P := fun _ l r => ∀ i, (wgs g i r.1).length ≤ 14 * l.length) ?_ ?_ ?_
  · intro o l _ i; simp [wgs]
  · intro o l e _ _ i; simp [wgs]
  · intro o l k t v m hs ht ih
    have hm := tk_len ht
    obtain ⟨-, -, w3⟩ := wrt_sep (p := o + sk false l) (sk_idem false l) ht [] (.inl rfl)
    generalize lxs (o + sk false l + m) ((l.drop (sk false l)).drop m) = R at ih ⊢
    simp only [List.length_drop] at ih hm
    unfold push
    split
    · intro i
      have h1 := hg i
      have h2 := ih (i + 1)
      simp only
      rw [wgs, List.length_append, List.length_append]
      omega
    · intro i
      have h2 := ih i
      omega
theorem wgs_take {g : Nat → Bs} (ts : List Tok) (k : Nat) : (wgs g 0 (ts.take k)).length ≤ (wgs g 0 ts).length := by
  have app : ∀ (a b : List Tok) (i : Nat), (wgs g i a).length ≤ (wgs g i (a ++ b)).length := by
    intro a
    induction a with
    | nil => intro b i; simp [wgs]
    | cons t r ih =>
      intro b i
      rw [List.cons_append, wgs, wgs]
      have := ih b (i + 1)
      simp only [List.length_append]
      omega
  conv => rhs; rw [← List.take_append_drop k ts]
  exact app _ _ _
/-- What Parse answers for the tokens with gaps. -/
theorem blanks_law {g : Nat → Bs} (hg : ∀ i, gapOK (g i)) {s : Bs} {ts : List Tok} {ps : List Pr} {x : Nat} (h8 : s.length ≤ 1500) (hf : full s = (ts, 0, 0)) (hp : parseB s = (ps, x, 0)) (hl : (wgs g 0 ts).length < 8000) :
    parseB (wgs g 0 ts ++ [10]) = (ps, 0, 0) := by
  obtain ⟨a1, a2, a3, a4⟩ := parse_ok hp
  rw [hf] at a2 a3
  have hx : lxs 0 s = (ts, 0, 0) := by rw [← full_small (by omega)]; exact hf
  obtain ⟨T, hT, hm⟩ := lxs_gaps hg 0 s (by rw [hx]) 0 0
  rw [hx] at hT hm
  have hF : full (wgs g 0 ts ++ [10]) = (T, 0, 0) := by rw [full_small (by simp; omega)]; exact hT
  have hb := source_blanks (E1 := (wgs g 0 ts ++ [10]).length) (E2 := s.length) (a1 := 0) (a2 := 0) hm
  rw [parse_mk (l := wgs g 0 ts ++ [10]) (ps := ps) (by rw [hF]) (by rw [hF, hb.2]; exact a2) (by rw [hF, hb.1]; exact a3), if_pos a4]
end Go.Proofs.YtekpefcggikcbaaGreatDoor
