/- Layer 9: plain facts of lists of tokens: places, parts. -/
import Derived.Test.YtolanmdckdjfeaaLexPl
namespace Go.Proofs.Ytolanmdckdjfeaa

/-- One token behind the other: the induction. -/
theorem lxs_ind {P : Nat → List UInt8 → Res → Prop}
    (hend : ∀ o l, sk false l = l.length → P o l ([], 0, 0))
    (herr : ∀ o l e, sk false l < l.length → tk (l.drop (sk false l)) = .err e → P o l ([], o + sk false l, e))
    (hok : ∀ o l k t v m, sk false l < l.length → tk (l.drop (sk false l)) = .ok k t v m → P (o + sk false l + m) ((l.drop (sk false l)).drop m) (lxs (o + sk false l + m) ((l.drop (sk false l)).drop m)) →
      P o l (push ⟨k, t, v, o + sk false l⟩ (lxs (o + sk false l + m) ((l.drop (sk false l)).drop m)))) :
    ∀ o l, P o l (lxs o l) := by
  suffices h : ∀ n o l, l.length ≤ n → P o l (lxs o l) from fun o l => h l.length o l (Nat.le_refl _)
  intro n
  induction n with
  | zero =>
    intro o l hl
    have : sk false l = l.length := by have := sk_le false l; omega
    rw [lxs_end this]; exact hend o l this
  | succ n ih =>
    intro o l hl
    have hle := sk_le false l
    by_cases hs : sk false l = l.length
    · rw [lxs_end hs]; exact hend o l hs
    · cases ht : tk (l.drop (sk false l)) with
      | err e => rw [lxs_err hs ht]; exact herr o l e (by omega) ht
      | ok k t v m =>
        have hm := (tk_len ht).1
        rw [lxs_ok hs ht]
        exact hok o l k t v m (by omega) ht (ih _ _ (by simp; omega))
theorem lxs_bad : ∀ o l, ((lxs o l).2.2 ≠ 0 → (lxs o l).1 = []) ∧ ((lxs o l).2.2 = 0 → (lxs o l).2.1 = 0) := by
  refine lxs_ind (P := fun _ _ r => (r.2.2 ≠ 0 → r.1 = []) ∧ (r.2.2 = 0 → r.2.1 = 0)) ?_ ?_ ?_
  · intro o l _; exact ⟨fun _ => rfl, fun _ => rfl⟩
  · intro o l e _ ht
    exact ⟨fun _ => rfl, fun h => absurd h (by have := tk_errn ht; exact this)⟩
  · intro o l k t v m _ _ ih
    unfold push
    by_cases h : (lxs (o + sk false l + m) ((l.drop (sk false l)).drop m)).2.2 = 0
    · rw [if_pos h]; exact ⟨fun h2 => absurd h h2, fun _ => ih.2 h⟩
    · rw [if_neg h]; exact ih
theorem lxs_len : ∀ o l, (lxs o l).1.length ≤ l.length := by
  refine lxs_ind (P := fun _ l r => r.1.length ≤ l.length) ?_ ?_ ?_
  · intro o l _; simp
  · intro o l e _ _; simp
  · intro o l k t v m hs ht ih
    have hm := (tk_len ht).1
    generalize lxs (o + sk false l + m) ((l.drop (sk false l)).drop m) = R at ih ⊢
    unfold push
    simp only [List.length_drop] at ih hm
    have hm2 := (tk_len ht).2
    rw [List.length_drop] at hm2
    split
    · simp; omega
    · omega
theorem lxs_at : ∀ o l, (lxs o l).2.1 ≤ o + l.length := by
  refine lxs_ind (P := fun o l r => r.2.1 ≤ o + l.length) ?_ ?_ ?_
  · intro o l _; simp
  · intro o l e h _; simp only; omega
  · intro o l k t v m hs ht ih
    have hm := tk_len ht
    generalize lxs (o + sk false l + m) ((l.drop (sk false l)).drop m) = R at ih ⊢
    unfold push
    simp only [List.length_drop] at ih hm
    split
    · simp only; omega
    · omega
/-- The places are those of the first byte's. -/
def sh (d : Nat) (r : Res) : Res := (r.1.map fun t => ⟨t.k, t.t, t.v, t.p + d⟩, if r.2.2 = 0 then r.2.1 else r.2.1 + d, r.2.2)
theorem lxs_shift (d : Nat) : ∀ o l, lxs (o + d) l = sh d (lxs o l) := by
  refine lxs_ind (P := fun o l r => lxs (o + d) l = sh d r) ?_ ?_ ?_
  · intro o l h; rw [lxs_end h]; rfl
  · intro o l e h ht
    rw [lxs_err (by omega) ht]
    have := tk_errn ht
    unfold sh
    simp [this]; omega
  · intro o l k t v m h ht ih
    rw [lxs_ok (by omega) ht]
    have e1 : o + d + sk false l + m = o + sk false l + m + d := by omega
    rw [e1, ih]
    generalize lxs (o + sk false l + m) ((l.drop (sk false l)).drop m) = R
    have e2 : o + d + sk false l = o + sk false l + d := by omega
    rw [e2]
    unfold push sh
    by_cases h2 : R.2.2 = 0
    · simp [h2]
    · simp [h2]
theorem lxs_places : ∀ o l, (lxs o l).2.2 = 0 → (∀ (j : Nat) (t : Tok), (lxs o l).1[j]? = some t → o ≤ t.p ∧ t.p < o + l.length) ∧
    (∀ (j : Nat) (s t : Tok), (lxs o l).1[j]? = some s → (lxs o l).1[j + 1]? = some t → s.p < t.p) ∧
    ∀ (j : Nat) (t : Tok), (lxs o l).1[j]? = some t → lxs o (l.take (t.p - o)) = ((lxs o l).1.take j, 0, 0) := by
  refine lxs_ind (P := fun o l r => r.2.2 = 0 → (∀ (j : Nat) (t : Tok), r.1[j]? = some t → o ≤ t.p ∧ t.p < o + l.length) ∧
    (∀ (j : Nat) (s t : Tok), r.1[j]? = some s → r.1[j + 1]? = some t → s.p < t.p) ∧
    ∀ (j : Nat) (t : Tok), r.1[j]? = some t → lxs o (l.take (t.p - o)) = (r.1.take j, 0, 0)) ?_ ?_ ?_
  · intro o l _ _
    refine ⟨fun j t h => ?_, fun j s t h => ?_, fun j t h => ?_⟩ <;> simp at h
  · intro o l e _ ht h
    exact absurd h (tk_errn ht)
  · intro o l k t v m hs ht ih
    obtain ⟨hm1, hm2⟩ := tk_len ht
    have hl0 := sk_le false l
    generalize hR : lxs (o + sk false l + m) ((l.drop (sk false l)).drop m) = R at ih ⊢
    unfold push
    by_cases h2 : R.2.2 = 0
    · rw [if_pos h2]
      intro _
      obtain ⟨i1, i2, i3⟩ := ih h2
      simp only [List.length_drop] at i1 hm2
      refine ⟨?_, ?_, ?_⟩
      · intro j u hu
        cases j with
        | zero => simp at hu; subst hu; simp; omega
        | succ j => have := i1 j u (by simpa using hu); omega
      · intro j a b ha hb
        cases j with
        | zero =>
          simp at ha; subst ha
          have := i1 0 b (by simpa using hb)
          simp; omega
        | succ j => exact i2 j a b (by simpa using ha) (by simpa using hb)
      · intro j u hu
        cases j with
        | zero =>
          simp at hu; subst hu
          simp only [List.take_zero]
          rw [lxs_end]
          rw [sk_take _ _ _ (by omega), List.length_take]; omega
        | succ j =>
          have hj : R.1[j]? = some u := by simpa using hu
          have hp := i1 j u hj
          have h3 := i3 j u hj
          obtain ⟨q, hq⟩ : ∃ q, u.p - o = sk false l + m + q := ⟨u.p - o - (sk false l + m), by omega⟩
          have hskt : sk false (l.take (u.p - o)) = sk false l := sk_take _ _ _ (by omega)
          have hdrop : (l.take (u.p - o)).drop (sk false l) = (l.drop (sk false l)).take (m + q) := by
            rw [List.drop_take]; congr 1; omega
          have htk : tk ((l.drop (sk false l)).take (m + q)) = .ok k t v m := by
            refine tk_cut (y := (l.drop (sk false l)).drop (m + q)) ?_ ?_
            · rw [List.take_append_drop]; exact ht
            · rw [List.length_take, List.length_drop]; omega
          have hne : sk false (l.take (u.p - o)) ≠ (l.take (u.p - o)).length := by
            rw [hskt, List.length_take]; omega
          rw [lxs_ok (k := k) (t := t) (v := v) (m := m) hne (by rw [hskt, hdrop]; exact htk), hskt, hdrop, List.drop_take]
          have e1 : m + q - m = u.p - (o + sk false l + m) := by omega
          rw [e1, h3]
          rfl
    · rw [if_neg h2]
      intro h3; exact absurd h3 h2
theorem lxs_parts (b : List UInt8) : ∀ o a, lxs o (a ++ 10 :: b) = if (lxs o a).2.2 = 0 then prep (lxs o a).1 (lxs (o + a.length + 1) b) else lxs o a := by
  refine lxs_ind (P := fun o a r => lxs o (a ++ 10 :: b) = if r.2.2 = 0 then prep r.1 (lxs (o + a.length + 1) b) else r) ?_ ?_ ?_
  · intro o a h
    simp only [if_true]
    rw [prep_nil]
    have hs := sk_ext false a b
    rw [if_neg (by omega)] at hs
    rw [lxs_skip o, hs, lxs_skip (o + a.length + 1) b]
    congr 1
    · omega
    · rw [List.drop_append, List.drop_eq_nil_of_le (by omega), List.nil_append, show a.length + 1 + sk false b - a.length = sk false b + 1 by omega, List.drop_succ_cons]
  · intro o a e h ht
    have hs := sk_ext false a b
    rw [if_pos h] at hs
    have hne : a.drop (sk false a) ≠ [] := by intro e; have := congrArg List.length e; simp at this; omega
    rw [if_neg (show (([], o + sk false a, e) : Res).2.2 ≠ 0 from tk_errn ht)]
    rw [lxs_err (e := e) (by rw [hs, List.length_append]; omega) (by rw [hs, List.drop_append_of_le_length (by omega)]; exact tk_bad hne ht b), hs]
  · intro o a k t v m h ht ih
    obtain ⟨hm1, hm2⟩ := tk_len ht
    have hs := sk_ext false a b
    rw [if_pos h] at hs
    have hne : a.drop (sk false a) ≠ [] := by intro e; have := congrArg List.length e; simp at this; omega
    have hdr : (a ++ 10 :: b).drop (sk false a) = a.drop (sk false a) ++ 10 :: b := List.drop_append_of_le_length (by omega)
    rw [lxs_ok (k := k) (t := t) (v := v) (m := m) (by rw [hs, List.length_append]; simp; omega) (by rw [hs, hdr]; exact tk_ext hne ht b (.inl rfl)), hs, hdr, List.drop_append_of_le_length hm2, ih]
    have elen : o + sk false a + m + ((a.drop (sk false a)).drop m).length + 1 = o + a.length + 1 := by
      simp only [List.length_drop] at hm2 ⊢; omega
    rw [elen]
    generalize lxs (o + sk false a + m) ((a.drop (sk false a)).drop m) = R
    unfold push prep
    by_cases h2 : R.2.2 = 0
    · simp only [h2, if_true]
      by_cases h3 : (lxs (o + a.length + 1) b).2.2 = 0
      · simp [h3]
      · simp [h3]
    · simp [h2]
end Go.Proofs.Ytolanmdckdjfeaa
