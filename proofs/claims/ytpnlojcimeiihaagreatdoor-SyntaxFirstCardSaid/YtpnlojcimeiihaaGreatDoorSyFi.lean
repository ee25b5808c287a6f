/- Layer 10: what stands behind the first wrong token, plainly. -/
import Derived.Test.YtpnlojcimeiihaaGreatDoorMSyRl
import Derived.Test.YtpnlojcimeiihaaGreatDoorMSvW
namespace Go.Proofs.YtpnlojcimeiihaaGreatDoor

/-- The error of a source is at one of its tokens, or at its end. -/
theorem source_at (E : Nat) (ts : List Tok) : (sourceP E ⟨ts, 0, 0⟩).2.e ≠ 0 → (sourceP E ⟨ts, 0, 0⟩).2.a = E ∨ ∃ t ∈ ts, t.p = (sourceP E ⟨ts, 0, 0⟩).2.a := by
  have H : Rl E E (fun _ _ => False) (fun s => (∀ t ∈ s.r, t ∈ ts) ∧ (s.e ≠ 0 → s.a = E ∨ ∃ t ∈ ts, t.p = s.a)) := rl_lo
    (fun {s} h => ⟨fun t ht => h.1 t (List.mem_of_mem_tail ht), h.2⟩)
    (fun {s} x hx h => by
      by_cases he : s.e = 0
      · rw [failS_ok x he]
        refine ⟨fun t ht => by simp at ht, fun _ => ?_⟩
        show (nextT E s).p = E ∨ ∃ t ∈ ts, t.p = (nextT E s).p
        unfold nextT
        cases hs : s.r with
        | nil => exact .inl rfl
        | cons t r => exact .inr ⟨t, h.1 t (by rw [hs]; simp), rfl⟩
      · rw [failS_err x he]; exact h)
  exact ((Good.source (N1 := 0) (N2 := 0) H).keep ⟨ts, 0, 0⟩ ⟨fun t h => h, fun h => absurd rfl h⟩).2
/-- The end of what counts: where the j-th token begins. -/
def endN (ts : List Tok) (len j : Nat) : Nat := match ts[j]? with
  | some t => t.p
  | none => len
theorem sorted_lt {ts : List Tok} (h : ∀ (j : Nat) (s t : Tok), ts[j]? = some s → ts[j + 1]? = some t → s.p < t.p) : ∀ (d i : Nat) (s t : Tok), ts[i]? = some s → ts[i + 1 + d]? = some t → s.p < t.p
  | 0, i, s, t, h1, h2 => h i s t h1 h2
  | d + 1, i, s, t, h1, h2 => by
    have hlt : i + 1 + d < ts.length := by
      have := (List.getElem?_eq_some_iff.1 h2).1; omega
    have h3 := sorted_lt h d i s ts[i + 1 + d] h1 (List.getElem?_eq_getElem hlt)
    have h4 := h (i + 1 + d) ts[i + 1 + d] t (List.getElem?_eq_getElem hlt) h2
    omega
theorem first_law {ls lt : Bs} {ts : List Tok} {at_ f j : Nat} {ps : List Pr} (h8 : ls.length ≤ 1500) (h9 : lt.length ≤ 1500) (hf : full ls = (ts, 0, 0)) (hp : parseB ls = (ps, at_, f)) (hf23 : f = 3 ∨ f = 2) (hat : at_ < ls.length)
    (hj : j ≤ ts.length) (hgt : ∀ t ∈ ts.drop j, at_ < t.p) (hle : j = 0 ∨ ∃ t, ts[j - 1]? = some t ∧ t.p ≤ at_) (hok : (full (ls.take (endN ts ls.length j) ++ 10 :: lt)).2.2 = 0) :
    ∃ qs, parseB (ls.take (endN ts ls.length j) ++ 10 :: lt) = (qs, at_, f) := by
  have hlx : lxs 0 ls = (ts, 0, 0) := by rw [← full_small (by omega)]; exact hf
  have hpl := lxs_places 0 ls (by rw [hlx])
  rw [hlx] at hpl
  obtain ⟨hp1, hp2, hp3⟩ := hpl
  have hsrc : (sourceP ls.length ⟨ts, 0, 0⟩).2.e = f ∧ (sourceP ls.length ⟨ts, 0, 0⟩).2.a = at_ := by
    unfold parseB at hp
    rw [hf] at hp
    simp only [ne_eq, not_true_eq_false, if_false] at hp
    split at hp
    · simp only [Prod.mk.injEq] at hp
      exact ⟨hp.2.2, hp.2.1⟩
    · split at hp
      · simp only [Prod.mk.injEq] at hp
        have h0 := hp.2.2
        rcases hf23 with h1 | h1 <;> rw [h1] at h0 <;> cases h0
      · simp only [Prod.mk.injEq] at hp
        have h0 := hp.2.2
        rcases hf23 with h1 | h1 <;> rw [h1] at h0 <;> cases h0
  have he : (sourceP ls.length ⟨ts, 0, 0⟩).2.e ≠ 0 := by rw [hsrc.1]; omega
  have hta := source_at ls.length ts he
  rw [hsrc.2] at hta
  obtain ⟨t0, ht0, hpt⟩ := hta.resolve_left (by omega)
  obtain ⟨i, hi⟩ := List.getElem?_of_mem ht0
  have hil := (List.getElem?_eq_some_iff.1 hi).1
  have hij : i < j := by
    apply Decidable.byContradiction
    intro hn
    have e1 : j + (i - j) = i := by omega
    have := hgt t0 (List.mem_iff_getElem?.2 ⟨i - j, by rw [List.getElem?_drop, e1]; exact hi⟩)
    omega
  have hji : j = i + 1 := by
    rcases hle with h | ⟨t, ht, htp⟩
    · omega
    · apply Decidable.byContradiction
      intro hn
      have e1 : i + 1 + (j - 1 - i - 1) = j - 1 := by omega
      have := sorted_lt hp2 (j - 1 - i - 1) i t0 t hi (by rw [e1]; exact ht)
      omega
  subst hji
  have hsplit : ts = ts.take i ++ t0 :: ts.drop (i + 1) := by
    conv => lhs; rw [← List.take_append_drop i ts, List.drop_eq_getElem_cons hil, (List.getElem?_eq_some_iff.1 hi).2]
  have htake : lxs 0 (ls.take (endN ts ls.length (i + 1))) = (ts.take (i + 1), 0, 0) := by
    unfold endN
    cases hn : ts[i + 1]? with
    | some t => exact hp3 (i + 1) t hn
    | none =>
      rw [List.take_of_length_le (Nat.le_refl _), hlx, List.take_of_length_le (by rw [List.getElem?_eq_none_iff] at hn; exact hn)]
  have hti : ts.take (i + 1) = ts.take i ++ [t0] := by rw [List.take_add_one, hi]; rfl
  have hlen : (ls.take (endN ts ls.length (i + 1)) ++ 10 :: lt).length ≤ 8000 := by
    rw [List.length_append, List.length_take, List.length_cons]; omega
  obtain ⟨r2, hr2⟩ : ∃ r2, full (ls.take (endN ts ls.length (i + 1)) ++ 10 :: lt) = (ts.take i ++ t0 :: r2, 0, 0) := by
    rw [full_small hlen] at hok ⊢
    rw [lxs_parts, htake] at hok ⊢
    simp only [if_true] at hok ⊢
    have hb := lxs_bad (0 + (ls.take (endN ts ls.length (i + 1))).length + 1) lt
    generalize lxs (0 + (ls.take (endN ts ls.length (i + 1))).length + 1) lt = Q at hok hb ⊢
    obtain ⟨q1, q2, q3⟩ := Q
    unfold prep at hok ⊢
    by_cases h0 : q3 = 0
    · subst h0
      have := hb.2 rfl
      simp only at this
      subst this
      refine ⟨q1, ?_⟩
      rw [if_pos rfl, hti]
      simp
    · rw [if_neg h0] at hok
      exact absurd hok h0
  have hE : t0.p < ls.length := by omega
  have key := source_first (E1 := ls.length) (E2 := (ls.take (endN ts ls.length (i + 1)) ++ 10 :: lt).length) (t0 := t0) (x := ts.take i) (r1 := ts.drop (i + 1)) (r2 := r2) hE (fun t ht => by have := hgt t ht; omega)
    (by rw [← hsplit]; exact he) (by rw [← hsplit, hsrc.2, hpt])
  rw [← hsplit, hsrc.1, hpt] at key
  refine ⟨[], ?_⟩
  unfold parseB
  rw [hr2]
  simp only [ne_eq, not_true_eq_false, if_false]
  rw [if_pos (by rw [key.1]; omega), key.1, key.2]
end Go.Proofs.YtpnlojcimeiihaaGreatDoor
