/- What was read is the encoding of what was read. -/
import Derived.Test.YtlimaefgifgegaaWirePre
import Derived.Test.YtlimaefgifgegaaWireElsI
namespace Go.Proofs.Ytlimaefgifgegaa
open Go.RowKit

theorem encF_top (u : Nat) (f : Nat) (h : u < 128) : encF f u = [u] := by
  cases f with
  | zero => rfl
  | succ f => exact encF_small h
/-- The number that stands at the beginning is written in the shortest way. -/
theorem digF_can : ∀ (l : List Nat) (i f u t s : Nat), i + f = 9 → Byt l → digF i u l = (t, s) → s ≠ 0 → ∃ v, t = u + v * 128 ^ i ∧ i ≤ s ∧ s - i ≤ l.length ∧ encF f v = l.take (s - i) ∧ (0 < i → 0 < v)
  | [], i, f, u, t, s, _, _, h, hs => by simp [digF] at h; omega
  | c :: r, i, f, u, t, s, hf, hb, h, hs => by
    have hc : c < 256 := hb c (by simp)
    unfold digF at h
    by_cases h1 : i = 9 ∧ 1 < c
    · rw [if_pos h1] at h; simp at h; omega
    · rw [if_neg h1] at h
      by_cases h2 : c < 128
      · rw [if_pos h2] at h
        by_cases h3 : c = 0 ∧ 0 < i
        · rw [if_pos h3] at h; simp at h; omega
        · rw [if_neg h3] at h
          simp only [Prod.mk.injEq] at h
          obtain ⟨rfl, rfl⟩ := h
          refine ⟨c, rfl, by omega, by simp, ?_, by omega⟩
          rw [encF_top c f h2, show i + 1 - i = 1 by omega]
          simp
      · rw [if_neg h2] at h
        by_cases h9 : i = 9
        · omega
        · obtain ⟨f', rfl⟩ : ∃ f', f = f' + 1 := ⟨f - 1, by omega⟩
          obtain ⟨v, e1, e2, e3, e4, e5⟩ := digF_can r (i + 1) f' _ t s (by omega) (fun x hx => hb x (by simp [hx])) h hs
          have hv := e5 (by omega)
          have hp : 128 ^ (i + 1) = 128 ^ i * 128 := Nat.pow_succ _ _
          refine ⟨(c - 128) + v * 128, ?_, by omega, by simp; omega, ?_, by omega⟩
          · rw [e1, hp, Nat.add_mul, Nat.add_assoc, Nat.mul_assoc v 128, Nat.mul_comm 128 (128 ^ i)]
          · rw [encF_big (by omega), show s - i = (s - (i + 1)) + 1 by omega, List.take_succ_cons, ← e4]
            congr 2 <;> omega
theorem zig_unzig (u : Nat) : zig (unzig u) = u := by
  unfold zig unzig
  split <;> split <;> omega
/-- p reads only encodings e. -/
def Canon1 {α : Type} (p : List Nat → Nat → Option (α × Nat)) (e : α → List Nat) : Prop := ∀ xs k x k', Byt xs → k ≤ xs.length → p xs k = some (x, k') → k ≤ k' ∧ k' ≤ xs.length ∧ xs.drop k = e x ++ xs.drop k'
theorem byt_drop {l : List Nat} (h : Byt l) (k : Nat) : Byt (l.drop k) := fun c hc => h c (List.mem_of_mem_drop hc)
theorem can_bnd (lo hi : Int) : Canon1 (pBnd lo hi) enc := by
  intro xs k x k' hb hk h
  unfold pBnd at h
  cases hd : digF 0 0 (xs.drop k) with
  | mk t s =>
    rw [hd] at h
    simp only at h
    by_cases h0 : s = 0
    · rw [if_pos h0] at h; cases h
    · rw [if_neg h0] at h
      split at h
      · simp only [Option.some.injEq, Prod.mk.injEq] at h
        obtain ⟨rfl, rfl⟩ := h
        obtain ⟨v, e1, e2, e3, e4, e5⟩ := digF_can _ 0 9 0 t s rfl (byt_drop hb k) hd h0
        rw [List.length_drop] at e3
        simp only [Nat.zero_add, Nat.pow_zero, Nat.mul_one, Nat.sub_zero] at e1 e3 e4
        subst e1
        refine ⟨by omega, by omega, ?_⟩
        unfold enc
        rw [zig_unzig, e4, ← List.drop_drop, List.take_append_drop]
      · cases h
theorem can_int : Canon1 pInt enc := can_bnd _ _
theorem can_bool : Canon1 pBool encB := by
  intro xs k x k' hb hk h
  unfold pBool at h
  split at h
  · rename_i h1
    simp only [Option.some.injEq, Prod.mk.injEq] at h
    obtain ⟨rfl, rfl⟩ := h
    refine ⟨by omega, by omega, ?_⟩
    obtain ⟨h1, h2⟩ := h1
    rw [List.drop_eq_getElem_cons h1]
    simp only [List.getD_eq_getElem?_getD, List.getElem?_eq_getElem h1, Option.getD_some] at h2 ⊢
    generalize xs[k] = y at h2 ⊢
    match y, h2 with
    | 0, _ => rfl
    | 1, _ => rfl
  · cases h
theorem can_list {α : Type} {p : List Nat → Nat → Option (α × Nat)} {e : α → List Nat} (hp : Canon1 p e) : ∀ m xs k l k', Byt xs → k ≤ xs.length → pList p m xs k = some (l, k') → k ≤ k' ∧ k' ≤ xs.length ∧ l.length = m ∧ xs.drop k = l.flatMap e ++ xs.drop k'
  | 0, xs, k, l, k', hb, hk, h => by
    simp only [pList, Option.some.injEq, Prod.mk.injEq] at h
    obtain ⟨rfl, rfl⟩ := h
    exact ⟨Nat.le_refl _, hk, rfl, rfl⟩
  | m + 1, xs, k, l, k', hb, hk, h => by
    cases hx : p xs k with
    | none => rw [pList_none hx] at h; cases h
    | some o =>
      obtain ⟨a, k1⟩ := o
      obtain ⟨a1, a2, a3⟩ := hp xs k a k1 hb hk hx
      rw [pList_some hx] at h
      cases hy : pList p m xs k1 with
      | none => rw [hy] at h; cases h
      | some o2 =>
        obtain ⟨l2, k2⟩ := o2
        obtain ⟨b1, b2, b3, b4⟩ := can_list hp m xs k1 l2 k2 hb a2 hy
        rw [hy] at h
        simp only [Option.map_some, Option.some.injEq, Prod.mk.injEq] at h
        obtain ⟨rfl, rfl⟩ := h
        refine ⟨by omega, b2, by simp [b3], ?_⟩
        rw [a3, b4, List.flatMap_cons, List.append_assoc]
theorem bytesOf_strOf {l : List Nat} (h : Byt l) : bytesOf (strOf l) = l := by
  unfold bytesOf strOf
  simp only [List.map_map]
  have : ∀ x ∈ l, (UInt8.toNat ∘ UInt8.ofNat) x = x := by
    intro x hx
    have := h x hx
    simp
    omega
  rw [List.map_congr_left this, List.map_id']
theorem can_text (mx : Int) : Canon1 (pText mx) encS := by
  intro xs k x k' hb hk h
  unfold pText pPart at h
  cases hp : pBnd 0 mx xs k with
  | none => rw [hp] at h; cases h
  | some o =>
    obtain ⟨z, k1⟩ := o
    obtain ⟨a1, a2, a3⟩ := can_bnd 0 mx xs k z k1 hb hk hp
    have hz := pBnd_some hp
    rw [hp] at h
    simp only at h
    by_cases hq : z.toNat ≤ xs.length - k1
    · rw [if_pos hq] at h
      simp only [Option.map_some, Option.some.injEq, Prod.mk.injEq] at h
      obtain ⟨rfl, rfl⟩ := h
      refine ⟨by omega, by omega, ?_⟩
      have e : bytesOf (tstr xs k1 z.toNat) = (xs.drop k1).take z.toNat := bytesOf_strOf (fun c hc => byt_drop hb k1 c (List.mem_of_mem_take hc))
      have e2 : ((tstr xs k1 z.toNat).size : Int) = z := by
        rw [← bytesOf_len, e, List.length_take, List.length_drop]; omega
      unfold encS
      rw [e2, e, a3, List.append_assoc, ← List.drop_drop, List.take_append_drop]
    · rw [if_neg hq] at h; cases h
theorem can_value : Canon1 pValue encVl := by
  intro xs k x k' hb hk h
  unfold pValue at h
  cases hp : pInt xs k with
  | none => rw [hp] at h; cases h
  | some o =>
    obtain ⟨kd, k1⟩ := o
    obtain ⟨a1, a2, a3⟩ := can_int xs k kd k1 hb hk hp
    rw [hp] at h
    simp only at h
    by_cases e1 : kd = 1
    · rw [if_pos e1] at h
      cases hy : pInt xs k1 with
      | none => rw [hy] at h; cases h
      | some o2 =>
        obtain ⟨m, k2⟩ := o2
        obtain ⟨b1, b2, b3⟩ := can_int xs k1 m k2 hb a2 hy
        rw [hy] at h
        simp only [Option.map_some, Option.some.injEq, Prod.mk.injEq] at h
        obtain ⟨rfl, rfl⟩ := h
        refine ⟨by omega, b2, ?_⟩
        unfold encVl encV
        rw [a3, b3, e1, if_pos rfl, List.append_assoc]
    · rw [if_neg e1] at h
      by_cases e2 : kd = 2
      · rw [if_pos e2] at h
        cases hy : pText 40 xs k1 with
        | none => rw [hy] at h; cases h
        | some o2 =>
          obtain ⟨m, k2⟩ := o2
          obtain ⟨b1, b2, b3⟩ := can_text 40 xs k1 m k2 hb a2 hy
          rw [hy] at h
          simp only [Option.map_some, Option.some.injEq, Prod.mk.injEq] at h
          obtain ⟨rfl, rfl⟩ := h
          refine ⟨by omega, b2, ?_⟩
          unfold encVl encV
          rw [a3, b3, e2]
          simp only [List.append_assoc, if_true, show ((2 : Int) = 1) = False by simp, if_false]
      · rw [if_neg e2] at h; cases h
theorem can_lst (mx : Int) : Canon1 (pLst mx) encVs := by
  intro xs k l k' hb hk h
  unfold pLst at h
  cases hp : pBnd 0 mx xs k with
  | none => rw [hp] at h; cases h
  | some o =>
    obtain ⟨z, k1⟩ := o
    obtain ⟨a1, a2, a3⟩ := can_bnd 0 mx xs k z k1 hb hk hp
    have hz := pBnd_some hp
    rw [hp] at h
    simp only at h
    obtain ⟨b1, b2, b3, b4⟩ := can_list can_value _ xs k1 l k' hb a2 h
    refine ⟨by omega, b2, ?_⟩
    unfold encVs
    rw [b3, show ((z.toNat : Nat) : Int) = z by omega, a3, b4, List.append_assoc]
def encIs (l : List Int) : List Nat := enc l.length ++ l.flatMap enc
theorem can_its (mx : Int) : Canon1 (pIts mx) encIs := by
  intro xs k l k' hb hk h
  unfold pIts at h
  cases hp : pBnd 0 mx xs k with
  | none => rw [hp] at h; cases h
  | some o =>
    obtain ⟨z, k1⟩ := o
    obtain ⟨a1, a2, a3⟩ := can_bnd 0 mx xs k z k1 hb hk hp
    have hz := pBnd_some hp
    rw [hp] at h
    simp only at h
    obtain ⟨b1, b2, b3, b4⟩ := can_list can_int _ xs k1 l k' hb a2 h
    refine ⟨by omega, b2, ?_⟩
    unfold encIs
    rw [b3, show ((z.toNat : Nat) : Int) = z by omega, a3, b4, List.append_assoc]
theorem can_event : Canon1 pEvent encEv := by
  intro ys k x k' hb hk h
  unfold pEvent at h
  cases h0 : pInt ys k with
  | none => rw [h0] at h; cases h
  | some o0 =>
    obtain ⟨x0, k1⟩ := o0
    obtain ⟨a0, b0, c0⟩ := can_int ys k x0 k1 hb hk h0
    rw [h0] at h
    simp only at h
    cases h1 : pBool ys k1 with
    | none => rw [h1] at h; cases h
    | some o1 =>
      obtain ⟨x1, k2⟩ := o1
      obtain ⟨a1, b1, c1⟩ := can_bool ys k1 x1 k2 hb b0 h1
      rw [h1] at h
      simp only at h
      cases h2 : pInt ys k2 with
      | none => rw [h2] at h; cases h
      | some o2 =>
        obtain ⟨x2, k3⟩ := o2
        obtain ⟨a2, b2, c2⟩ := can_int ys k2 x2 k3 hb b1 h2
        rw [h2] at h
        simp only at h
        cases h3 : pInt ys k3 with
        | none => rw [h3] at h; cases h
        | some o3 =>
          obtain ⟨x3, k4⟩ := o3
          obtain ⟨a3, b3, c3⟩ := can_int ys k3 x3 k4 hb b2 h3
          rw [h3] at h
          simp only at h
          cases h4 : pLst 4 ys k4 with
          | none => rw [h4] at h; cases h
          | some o4 =>
            obtain ⟨x4, k5⟩ := o4
            obtain ⟨a4, b4, c4⟩ := can_lst 4 ys k4 x4 k5 hb b3 h4
            rw [h4] at h
            simp only [Option.map_some, Option.some.injEq, Prod.mk.injEq] at h
            obtain ⟨rfl, rfl⟩ := h
            refine ⟨by omega, b4, ?_⟩
            unfold encEv
            rw [c0, c1, c2, c3, c4]
            simp only [List.append_assoc]
/-- All was read: it is the encoding. -/
theorem can_all {α : Type} {p : List Nat → Nat → Option (α × Nat)} {e : α → List Nat} (hp : Canon1 p e) {xs : List Nat} (hb : Byt xs) {x : α} {k : Nat} (h : p xs 0 = some (x, k)) (hk : ¬ k < xs.length) : e x = xs := by
  obtain ⟨a1, a2, a3⟩ := hp xs 0 x k hb (Nat.zero_le _) h
  rw [List.drop_zero, show k = xs.length by omega, List.drop_length, List.append_nil] at a3
  exact a3.symm
end Go.Proofs.Ytlimaefgifgegaa
