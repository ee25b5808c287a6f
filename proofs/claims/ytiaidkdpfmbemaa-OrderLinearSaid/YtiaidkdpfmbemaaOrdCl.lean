/- Cuts and linear extensions: plain facts. -/
import Derived.Test.YtiaidkdpfmbemaaOrdLi
namespace Go.Proofs.Ytiaidkdpfmbemaa
open Go.RowKit

section
variable {n : Nat} {es : List (Int × Int)}
/-- Closed: with each event all that is before it. -/
def Clo (n : Nat) (es : List (Int × Int)) (s : Nat) : Prop := ∀ i, i < n → ∀ k, k < n → Bf n es i k = true → s.testBit k = true → s.testBit i = true
theorem seW_bits {N : Int} : ∀ {l : List Int} {s0 s : Nat}, seW N l s0 = some s → (∀ i, s.testBit i = true ↔ s0.testBit i = true ∨ ∃ x ∈ l, x.toNat = i) ∧ ∀ x ∈ l, inB N x = true
  | [], s0, s, h => by
    simp only [seW, Option.some.injEq] at h
    subst h
    exact ⟨fun i => by simp, by simp⟩
  | x :: t, s0, s, h => by
    rw [seW] at h
    by_cases hc : (inB N x && !s0.testBit x.toNat) = true
    · rw [if_pos hc] at h
      obtain ⟨h1, h2⟩ := seW_bits h
      rw [Bool.and_eq_true] at hc
      refine ⟨fun i => ?_, fun y hy => ?_⟩
      · rw [h1, or_bit, Bool.or_eq_true, decide_eq_true_iff]
        constructor
        · rintro ((h | h) | ⟨y, hy, hyi⟩)
          · exact .inl h
          · exact .inr ⟨x, List.mem_cons_self .., h⟩
          · exact .inr ⟨y, List.mem_cons_of_mem _ hy, hyi⟩
        · rintro (h | ⟨y, hy, hyi⟩)
          · exact .inl (.inl h)
          · rcases List.mem_cons.1 hy with rfl | hy
            · exact .inl (.inr hyi)
            · exact .inr ⟨y, hy, hyi⟩
      · rcases List.mem_cons.1 hy with rfl | hy
        · exact hc.1
        · exact h2 y hy
    · rw [if_neg hc] at h
      cases h
theorem cutW_none {l : List Int} (h : seW n l 0 = none) : cutW n (psts (n : Int) es) l = false := by unfold cutW; rw [h]
theorem cutW_iff {l : List Int} {s : Nat} (h : seW n l 0 = some s) : cutW n (psts (n : Int) es) l = true ↔ Clo n es s := by
  obtain ⟨h1, h2⟩ := seW_bits h
  have e : cutW n (psts (n : Int) es) l = l.all fun x => decide (sdiff ((psts (n : Int) es).getD x.toNat 0) s = 0) := by unfold cutW; rw [h]
  rw [e, List.all_eq_true]
  constructor
  · intro ha i hi k hk hb hs
    rcases (h1 k).1 hs with h0 | ⟨x, hx, hxk⟩
    · rw [Nat.zero_testBit] at h0; cases h0
    · have h3 := ha x hx
      rw [hxk, psts_at (by omega), decide_eq_true_iff, sdiff_zero] at h3
      exact h3 i (by rw [pst_bit (by omega)]; exact hb)
  · intro hc x hx
    obtain ⟨x0, x1⟩ := inB_iff.1 (h2 x hx)
    rw [decide_eq_true_iff, sdiff_zero]
    intro i hi
    rw [psts_at (by omega), pst_bit', Bool.and_eq_true, decide_eq_true_iff, Int.toNat_natCast] at hi
    exact hc i hi.1 x.toNat (by omega) hi.2 ((h1 _).2 (.inr ⟨x, hx, rfl⟩))
theorem isW_take {N : Int} {ps : List Nat} : ∀ {l : List Int} {s : Nat} (m : Nat), isW N ps l s = true → isW N ps (l.take m) s = true
  | [], s, m, h => by rw [List.take_nil]; rfl
  | x :: t, s, 0, h => rfl
  | x :: t, s, m + 1, h => by
    rw [List.take_succ_cons]
    rw [isW, Bool.and_eq_true, Bool.and_eq_true] at h ⊢
    exact ⟨h.1, h.2.1, isW_take m h.2.2⟩
theorem isW_clo : ∀ {l : List Int} {s : Nat}, Clo n es s → isW n (psts (n : Int) es) l s = true → ∃ s', seW n l s = some s' ∧ Clo n es s'
  | [], s, hc, _ => ⟨s, rfl, hc⟩
  | x :: t, s, hc, h => by
    rw [isW, Bool.and_eq_true, Bool.and_eq_true] at h
    obtain ⟨h1, h2, h3⟩ := h
    obtain ⟨x0, x1⟩ := inB_iff.1 h1
    obtain ⟨r1, r2⟩ := (rdy_iff (N := (n : Int)) (by omega)).1 h2
    have hc2 : Clo n es (s ||| 2 ^ x.toNat) := by
      intro i hi k hk hb hs
      rw [or_bit, Bool.or_eq_true, decide_eq_true_iff] at hs ⊢
      rcases hs with hs | hs
      · exact .inl (hc i hi k hk hb hs)
      · subst hs; exact .inl (r2 i (by omega) hb)
    obtain ⟨s', h4, h5⟩ := isW_clo hc2 h3
    refine ⟨s', ?_, h5⟩
    rw [seW, h1, r1, if_pos (show (true && !false) = true from rfl)]
    exact h4
theorem clo_isW (ha : acyc (n : Int) es = true) : ∀ {l : List Int} {s : Nat}, Clo n es s → (∀ m, m ≤ l.length → ∃ s', seW n (l.take m) s = some s' ∧ Clo n es s') → isW n (psts (n : Int) es) l s = true
  | [], s, _, _ => rfl
  | x :: t, s, hc, h => by
    obtain ⟨s1, h1, h2⟩ := h 1 (by simp)
    rw [List.take_succ_cons, List.take_zero, seW] at h1
    by_cases hcd : (inB n x && !s.testBit x.toNat) = true
    · rw [if_pos hcd, seW, Option.some.injEq] at h1
      subst h1
      rw [Bool.and_eq_true] at hcd
      obtain ⟨x0, x1⟩ := inB_iff.1 hcd.1
      have hr : rdyW (psts (n : Int) es) s x.toNat = true := by
        refine (rdy_iff (N := (n : Int)) (by omega)).2 ⟨by simpa using hcd.2, fun i hi hb => ?_⟩
        rw [Int.toNat_natCast] at hi
        have h3 := h2 i hi x.toNat (by omega) hb (by rw [or_bit]; simp)
        rw [or_bit, Bool.or_eq_true, decide_eq_true_iff] at h3
        rcases h3 with h3 | h3
        · exact h3
        · subst h3
          rw [Bf.irr ha (by omega)] at hb
          cases hb
      rw [isW, hcd.1, Bool.true_and, hr, Bool.true_and]
      refine clo_isW ha h2 fun m hm => ?_
      obtain ⟨s', h4, h5⟩ := h (m + 1) (by simp; omega)
      rw [List.take_succ_cons, seW, if_pos (by rw [Bool.and_eq_true]; exact hcd)] at h4
      exact ⟨s', h4, h5⟩
    · rw [if_neg hcd] at h1
      cases h1
theorem clo_zero : Clo n es 0 := fun i _ k _ _ h => by rw [Nat.zero_testBit] at h; cases h
/-- A list is a linear extension exactly if its beginnings are cuts. -/
theorem isW_cuts (ha : acyc (n : Int) es = true) (l : List Int) : isW n (psts (n : Int) es) l 0 = true ↔ ∀ m, m ≤ l.length → cutW n (psts (n : Int) es) (l.take m) = true := by
  constructor
  · intro h m _
    obtain ⟨s', h1, h2⟩ := isW_clo clo_zero (isW_take m h)
    exact (cutW_iff h1).2 h2
  · intro h
    refine clo_isW ha clo_zero fun m hm => ?_
    have h1 := h m hm
    cases hs : seW n (l.take m) 0 with
    | none => rw [cutW_none hs] at h1; cases h1
    | some s' => exact ⟨s', rfl, (cutW_iff hs).1 h1⟩
end
end Go.Proofs.Ytiaidkdpfmbemaa
