/- What the plain parsers make of encodings: where they end; no beginning of one is one. -/
import Derived.Test.YtlimaefgifgegaaWireEvW
import Derived.Test.YtlimaefgifgegaaWireVals
namespace Go.Proofs.Ytlimaefgifgegaa
open Go.RowKit

theorem digF_encF : ∀ (f i acc v : Nat) (rest : List Nat), f + i = 9 → v * 128 ^ i < 18446744073709551616 → (v ≠ 0 ∨ i = 0) → digF i acc (encF f v ++ rest) = (acc + v * 128 ^ i, i + (encF f v).length)
  | 0, i, acc, v, rest, hi, hv, h0 => by
    obtain rfl : i = 9 := by omega
    have h2 : v ≤ 1 := by
      apply Nat.le_of_not_lt
      intro h
      have : 2 * 128 ^ 9 ≤ v * 128 ^ 9 := Nat.mul_le_mul_right _ h
      have e : 2 * 128 ^ 9 = 18446744073709551616 := by decide
      omega
    simp only [encF, List.cons_append, List.nil_append, List.length_singleton]
    have h9 : ¬ ((9 : Nat) = 9 ∧ 1 < v) := by omega
    have hz : ¬ (v = 0 ∧ 0 < 9) := by omega
    unfold digF
    rw [if_neg h9, if_pos (by omega), if_neg hz]
  | f + 1, i, acc, v, rest, hi, hv, h0 => by
    by_cases hs : v < 128
    · rw [encF_small hs]
      simp only [List.cons_append, List.nil_append, List.length_singleton]
      have h9 : ¬ (i = 9 ∧ 1 < v) := by omega
      have hz : ¬ (v = 0 ∧ 0 < i) := by omega
      unfold digF
      rw [if_neg h9, if_pos hs, if_neg hz]
    · rw [encF_big (by omega)]
      simp only [List.cons_append, List.length_cons]
      have h9 : ¬ (i = 9 ∧ 1 < v % 128 + 128) := by omega
      have hp : 128 ^ (i + 1) = 128 ^ i * 128 := Nat.pow_succ _ _
      have hdm : v = v / 128 * 128 + v % 128 := by omega
      have hsum : v * 128 ^ i = v / 128 * 128 ^ (i + 1) + v % 128 * 128 ^ i := by
        conv => lhs; rw [hdm]
        rw [Nat.add_mul, Nat.mul_assoc, hp, Nat.mul_comm 128]
      unfold digF
      rw [if_neg h9, if_neg (by omega), digF_encF f (i + 1) _ (v / 128) rest (by omega) (by omega) (.inl (by omega)), Nat.add_sub_cancel]
      simp only [Prod.mk.injEq]
      omega
theorem dig_enc {n : Int} (h : I64 n) (rest : List Nat) : digF 0 0 (enc n ++ rest) = (zig n, (enc n).length) := by
  have := digF_encF 9 0 0 (zig n) rest rfl (by have := zig_lt n h.1 h.2; omega) (.inr rfl)
  unfold enc
  rw [this]
  simp
theorem pBnd_enc {n lo hi : Int} (h : I64 n) {xs rest : List Nat} {k : Nat} (hx : xs.drop k = enc n ++ rest) : pBnd lo hi xs k = if lo ≤ n ∧ n ≤ hi then some (n, k + (enc n).length) else none := by
  unfold pBnd
  rw [hx, dig_enc h]
  simp only [unzig_zig]
  rw [if_neg (show ¬ (enc n).length = 0 from Nat.ne_of_gt (encF_pos 9 _))]

/-- A parser that, where it has read something, reads it whatever follows. -/
def Stable {α : Type} (p : List Nat → Nat → Option (α × Nat)) : Prop := ∀ ys t k x k', k ≤ ys.length → p ys k = some (x, k') → k' ≤ ys.length ∧ p (ys ++ t) k = some (x, k')
/-- A parser that, at this encoding, fails or reads just it. -/
def Ends {α : Type} (p : List Nat → Nat → Option (α × Nat)) (e : List Nat) : Prop := ∀ pre rest, p (pre ++ (e ++ rest)) pre.length = none ∨ ∃ x, p (pre ++ (e ++ rest)) pre.length = some (x, pre.length + e.length)
theorem no_prefix {α : Type} {p : List Nat → Nat → Option (α × Nat)} {e : List Nat} (hs : Stable p) (he : Ends p e) (k : Nat) (hk : k < e.length) : p (e.take k) 0 = none := by
  cases h : p (e.take k) 0 with
  | none => rfl
  | some o =>
    obtain ⟨x, k'⟩ := o
    obtain ⟨h1, h2⟩ := hs _ (e.drop k) _ _ _ (Nat.zero_le _) h
    rw [List.take_append_drop] at h2
    rw [List.length_take] at h1
    rcases he [] [] with h3 | ⟨y, h3⟩
    · simp only [List.nil_append, List.append_nil, List.length_nil] at h3
      rw [h3] at h2; cases h2
    · simp only [List.nil_append, List.append_nil, List.length_nil, Nat.zero_add] at h3
      rw [h3] at h2
      simp only [Option.some.injEq, Prod.mk.injEq] at h2
      omega
theorem digF_ext : ∀ (l t : List Nat) (i u : Nat), (digF i u l).2 ≠ 0 → digF i u (l ++ t) = digF i u l
  | [], t, i, u, h => by simp [digF] at h
  | c :: r, t, i, u, h => by
    rw [List.cons_append]
    unfold digF at h ⊢
    split
    · rfl
    · rename_i h1
      rw [if_neg h1] at h
      split
      · rfl
      · rename_i h2
        rw [if_neg h2] at h
        exact digF_ext r t _ _ h
theorem digF_le : ∀ (l : List Nat) (i u : Nat), (digF i u l).2 ≤ i + l.length
  | [], i, u => by simp [digF]
  | c :: r, i, u => by
    have := digF_le r (i + 1) (u + (c - 128) * 128 ^ i)
    unfold digF
    split
    · simp
    · split
      · split
        · simp
        · simp only [List.length_cons]; omega
      · simp only [List.length_cons]; omega
theorem stable_bnd (lo hi : Int) : Stable (pBnd lo hi) := by
  intro ys t k x k' hk h
  unfold pBnd at h ⊢
  rw [List.drop_append_of_le_length hk]
  have hle := digF_le (ys.drop k) 0 0
  rw [List.length_drop] at hle
  by_cases h0 : (digF 0 0 (ys.drop k)).2 = 0
  · rw [if_pos h0] at h; cases h
  · rw [if_neg h0] at h
    rw [digF_ext _ _ _ _ h0, if_neg h0]
    split at h
    · rename_i h1
      simp only [Option.some.injEq, Prod.mk.injEq] at h
      obtain ⟨rfl, rfl⟩ := h
      exact ⟨by omega, by rw [if_pos h1]⟩
    · cases h
theorem stable_int : Stable pInt := stable_bnd _ _
theorem stable_bool : Stable pBool := by
  intro ys t k x k' hk h
  unfold pBool at h ⊢
  split at h
  · rename_i h1
    simp only [Option.some.injEq, Prod.mk.injEq] at h
    obtain ⟨rfl, rfl⟩ := h
    have e : (ys ++ t).getD k 0 = ys.getD k 0 := by
      simp only [List.getD_eq_getElem?_getD]
      rw [List.getElem?_append_left h1.1]
    rw [e, if_pos ⟨by rw [List.length_append]; omega, h1.2⟩]
    exact ⟨h1.1, rfl⟩
  · cases h
theorem stable_text (mx : Int) : Stable (pText mx) := by
  intro ys t k x k' hk h
  unfold pText pPart at h ⊢
  cases hb : pBnd 0 mx ys k with
  | none => rw [hb] at h; cases h
  | some o =>
    obtain ⟨z, k1⟩ := o
    obtain ⟨h1, h2⟩ := stable_bnd 0 mx ys t k z k1 hk hb
    rw [hb] at h
    rw [h2]
    simp only at h ⊢
    by_cases hz : z.toNat ≤ ys.length - k1
    · rw [if_pos hz] at h
      rw [if_pos (by rw [List.length_append]; omega)]
      simp only [Option.map_some, Option.some.injEq, Prod.mk.injEq] at h ⊢
      obtain ⟨rfl, rfl⟩ := h
      refine ⟨by omega, ?_, rfl⟩
      unfold tstr
      rw [List.drop_append_of_le_length h1, List.take_append_of_le_length (by rw [List.length_drop]; exact hz)]
    · rw [if_neg hz] at h; cases h
theorem Stable.map {α β : Type} {p : List Nat → Nat → Option (α × Nat)} (hp : Stable p) (f : α × Nat → β) {ys t : List Nat} {k : Nat} {y : β} {k' : Nat} (hk : k ≤ ys.length) (h : (p ys k).map (fun o => (f o, o.2)) = some (y, k')) :
    k' ≤ ys.length ∧ (p (ys ++ t) k).map (fun o => (f o, o.2)) = some (y, k') := by
  cases hx : p ys k with
  | none => rw [hx] at h; cases h
  | some o =>
    obtain ⟨x, k1⟩ := o
    obtain ⟨h1, h2⟩ := hp ys t k x k1 hk hx
    rw [hx] at h
    rw [h2]
    simp only [Option.map_some, Option.some.injEq, Prod.mk.injEq] at h
    exact ⟨by omega, by simp only [Option.map_some, Option.some.injEq, Prod.mk.injEq]; exact h⟩
theorem stable_value : Stable pValue := by
  intro ys t k x k' hk h
  unfold pValue at h ⊢
  cases hb : pInt ys k with
  | none => rw [hb] at h; cases h
  | some o =>
    obtain ⟨kd, k1⟩ := o
    obtain ⟨h1, h2⟩ := stable_int ys t k kd k1 hk hb
    rw [hb] at h
    rw [h2]
    simp only at h ⊢
    by_cases e1 : kd = 1
    · rw [if_pos e1] at h ⊢
      exact stable_int.map (fun p => ((1, p.1, strOf []) : Vl)) h1 h
    · rw [if_neg e1] at h ⊢
      by_cases e2 : kd = 2
      · rw [if_pos e2] at h ⊢
        exact (stable_text 40).map (fun p => ((2, 0, p.1) : Vl)) h1 h
      · rw [if_neg e2] at h; cases h
theorem stable_list {α : Type} {p : List Nat → Nat → Option (α × Nat)} (hp : Stable p) : ∀ m, Stable (pList p m)
  | 0 => by
    intro ys t k x k' hk h
    simp only [pList, Option.some.injEq, Prod.mk.injEq] at h ⊢
    exact ⟨by omega, h⟩
  | m + 1 => by
    intro ys t k x k' hk h
    cases hx : p ys k with
    | none => rw [pList_none hx] at h; cases h
    | some o =>
      obtain ⟨a, k1⟩ := o
      obtain ⟨h1, h2⟩ := hp ys t k a k1 hk hx
      rw [pList_some hx] at h
      rw [pList_some h2]
      exact (stable_list hp m).map (fun r => a :: r.1) h1 h
theorem stable_lst (mx : Int) : Stable (pLst mx) := by
  intro ys t k x k' hk h
  unfold pLst at h ⊢
  cases hb : pBnd 0 mx ys k with
  | none => rw [hb] at h; cases h
  | some o =>
    obtain ⟨z, k1⟩ := o
    obtain ⟨h1, h2⟩ := stable_bnd 0 mx ys t k z k1 hk hb
    rw [hb] at h
    rw [h2]
    exact stable_list stable_value _ ys t k1 x k' h1 h
theorem stable_event : Stable pEvent := by
  intro ys t k x k' hk h
  unfold pEvent at h ⊢
  cases h0 : pInt ys k with
  | none => rw [h0] at h; cases h
  | some o0 =>
    obtain ⟨x0, k1⟩ := o0
    obtain ⟨a0, b0⟩ := stable_int ys t k x0 k1 hk h0
    rw [h0] at h
    rw [b0]
    simp only at h ⊢
    cases h1 : pBool ys k1 with
    | none => rw [h1] at h; cases h
    | some o1 =>
      obtain ⟨x1, k2⟩ := o1
      obtain ⟨a1, b1⟩ := stable_bool ys t k1 x1 k2 a0 h1
      rw [h1] at h
      rw [b1]
      simp only at h ⊢
      cases h2 : pInt ys k2 with
      | none => rw [h2] at h; cases h
      | some o2 =>
        obtain ⟨x2, k3⟩ := o2
        obtain ⟨a2, b2⟩ := stable_int ys t k2 x2 k3 a1 h2
        rw [h2] at h
        rw [b2]
        simp only at h ⊢
        cases h3 : pInt ys k3 with
        | none => rw [h3] at h; cases h
        | some o3 =>
          obtain ⟨x3, k4⟩ := o3
          obtain ⟨a3, b3⟩ := stable_int ys t k3 x3 k4 a2 h3
          rw [h3] at h
          rw [b3]
          exact (stable_lst 4).map (fun r => ((x0, x1, x2, x3, r.1) : Ev)) a3 h

theorem at_mid (pre e rest : List Nat) : (pre ++ (e ++ rest)).drop pre.length = e ++ rest := List.drop_left' rfl
theorem ends_bnd {lo hi n : Int} (h : I64 n) : Ends (pBnd lo hi) (enc n) := by
  intro pre rest
  rw [pBnd_enc h (at_mid pre _ rest)]
  split
  · exact .inr ⟨_, rfl⟩
  · exact .inl rfl
theorem int_mid {n : Int} (h : I64 n) (pre rest : List Nat) : pInt (pre ++ (enc n ++ rest)) pre.length = some (n, pre.length + (enc n).length) := by
  unfold pInt
  exact (pBnd_enc h (at_mid pre _ rest)).trans (if_pos (show _ ∧ _ by unfold I64 at h; omega))
theorem ends_int {n : Int} (h : I64 n) : Ends pInt (enc n) := fun pre rest => .inr ⟨_, int_mid h pre rest⟩
theorem bool_mid (b : Bool) (pre rest : List Nat) : pBool (pre ++ (encB b ++ rest)) pre.length = some (b, pre.length + (encB b).length) := by
  unfold pBool
  have e : (pre ++ (encB b ++ rest)).getD pre.length 0 = if b then 1 else 0 := by
    simp only [List.getD_eq_getElem?_getD]
    rw [List.getElem?_append_right (Nat.le_refl _), Nat.sub_self]
    cases b <;> rfl
  rw [e, if_pos ⟨by cases b <;> simp [encB], by cases b <;> decide⟩]
  cases b <;> simp [encB]
theorem ends_text (mx : Int) {s : ByteArray} (h : s.size ≤ 9223372036854775807) : Ends (pText mx) (encS s) := by
  intro pre rest
  unfold pText pPart encS
  rw [List.append_assoc, pBnd_enc (by unfold I64; omega) (at_mid pre _ _)]
  by_cases hq : (0 : Int) ≤ (s.size : Int) ∧ (s.size : Int) ≤ mx
  · rw [if_pos hq]
    simp only [Int.toNat_natCast]
    rw [if_pos (by simp only [List.length_append, bytesOf_len]; omega)]
    right
    refine ⟨tstr (pre ++ (enc (s.size : Int) ++ (bytesOf s ++ rest))) (pre.length + (enc (s.size : Int)).length) s.size, ?_⟩
    rw [Option.map_some]
    simp only [List.length_append, bytesOf_len]
    rw [Nat.add_assoc]
  · rw [if_neg hq]
    exact .inl rfl
theorem ends_value {x : Vl} (h : VlOk x) : Ends pValue (encVl x) := by
  intro pre rest
  unfold pValue encVl encV
  rw [List.append_assoc, int_mid h.1]
  simp only
  by_cases e1 : x.1 = 1
  · rw [if_pos e1, if_pos e1]
    right
    have := int_mid h.2.1 (pre ++ enc x.1) rest
    rw [List.append_assoc, List.length_append] at this
    rw [this]
    exact ⟨(1, x.2.1, strOf []), by rw [Option.map_some, List.length_append, Nat.add_assoc]⟩
  · rw [if_neg e1, if_neg e1]
    by_cases e2 : x.1 = 2
    · rw [if_pos e2, if_pos e2]
      have := ends_text 40 h.2.2 (pre ++ enc x.1) rest
      rw [List.append_assoc, List.length_append] at this
      rcases this with h3 | ⟨y, h3⟩
      · left; rw [h3]; rfl
      · right; rw [h3]; exact ⟨(2, 0, y), by rw [Option.map_some, List.length_append, Nat.add_assoc]⟩
    · rw [if_neg e2]; exact .inl rfl
theorem ends_vals : ∀ (l : List Vl), (∀ x ∈ l, VlOk x) → Ends (pList pValue l.length) (l.flatMap encVl)
  | [], _ => fun pre rest => .inr ⟨[], by simp [pList]⟩
  | x :: l, h => by
    intro pre rest
    rw [List.flatMap_cons, List.append_assoc]
    rcases ends_value (h x (by simp)) pre (l.flatMap encVl ++ rest) with h1 | ⟨y, h1⟩
    · left
      exact pList_none h1
    · have ih := ends_vals l (fun z hz => h z (by simp [hz])) (pre ++ encVl x) rest
      rw [List.append_assoc, List.length_append] at ih
      rw [List.length_cons, pList_some h1]
      rcases ih with h2 | ⟨z, h2⟩
      · left; rw [h2]; rfl
      · right; rw [h2]; exact ⟨_, by rw [Option.map_some, List.length_append, Nat.add_assoc]⟩
theorem ends_lst (mx : Int) {l : List Vl} (h : ∀ x ∈ l, VlOk x) (hl : l.length ≤ 9223372036854775807) : Ends (pLst mx) (encVs l) := by
  intro pre rest
  unfold pLst encVs
  rw [List.append_assoc, pBnd_enc (by unfold I64; omega) (at_mid pre _ _)]
  by_cases hq : (0 : Int) ≤ (l.length : Int) ∧ (l.length : Int) ≤ mx
  · rw [if_pos hq]
    simp only [Int.toNat_natCast]
    have ih := ends_vals l h (pre ++ enc (l.length : Int)) rest
    rw [List.append_assoc, List.length_append] at ih
    rcases ih with h2 | ⟨z, h2⟩
    · left; exact h2
    · right; exact ⟨z, by rw [h2, List.length_append, Nat.add_assoc]⟩
  · rw [if_neg hq]
    exact .inl rfl
def EvOk (y : Ev) : Prop := I64 y.1 ∧ I64 y.2.2.1 ∧ I64 y.2.2.2.1 ∧ (∀ x ∈ y.2.2.2.2, VlOk x) ∧ y.2.2.2.2.length ≤ 9223372036854775807
def encEv (y : Ev) : List Nat := enc y.1 ++ (encB y.2.1 ++ (enc y.2.2.1 ++ (enc y.2.2.2.1 ++ encVs y.2.2.2.2)))
theorem ends_event {y : Ev} (h : EvOk y) : Ends pEvent (encEv y) := by
  obtain ⟨h0, h2, h3, h4, h5⟩ := h
  intro pre rest
  unfold pEvent encEv
  rw [List.append_assoc, int_mid h0]
  simp only
  have e1 := bool_mid y.2.1 (pre ++ enc y.1) ((enc y.2.2.1 ++ (enc y.2.2.2.1 ++ encVs y.2.2.2.2)) ++ rest)
  rw [List.append_assoc, List.length_append] at e1
  rw [List.append_assoc (encB y.2.1), e1]
  simp only
  have e2 := int_mid h2 (pre ++ (enc y.1 ++ encB y.2.1)) ((enc y.2.2.2.1 ++ encVs y.2.2.2.2) ++ rest)
  simp only [List.append_assoc, List.length_append] at e2
  simp only [List.append_assoc, Nat.add_assoc]
  rw [e2]
  simp only
  have e3 := int_mid h3 (pre ++ (enc y.1 ++ (encB y.2.1 ++ enc y.2.2.1))) (encVs y.2.2.2.2 ++ rest)
  simp only [List.append_assoc, List.length_append] at e3
  simp only [Nat.add_assoc] at e3 ⊢
  rw [e3]
  simp only
  have e4 := ends_lst 4 h4 h5 (pre ++ (enc y.1 ++ (encB y.2.1 ++ (enc y.2.2.1 ++ enc y.2.2.2.1)))) rest
  simp only [List.append_assoc, List.length_append] at e4
  simp only [Nat.add_assoc] at e4 ⊢
  rcases e4 with e4 | ⟨z, e4⟩
  · left; rw [e4]; rfl
  · right; rw [e4]; exact ⟨(y.1, y.2.1, y.2.2.1, y.2.2.2.1, z), by rw [Option.map_some]; simp only [List.length_append]⟩
end Go.Proofs.Ytlimaefgifgegaa
