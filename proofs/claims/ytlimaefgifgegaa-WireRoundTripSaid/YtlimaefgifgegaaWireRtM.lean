/- WireRoundTrip: what the law writes, and how a reader walks over it. -/
import Derived.Test.YtlimaefgifgegaaWireSst
namespace Go.Proofs.Ytlimaefgifgegaa
open Go.RowKit

def even (x : Int) : Bool := x.tmod 2 == 0
def eI (x : Int) : List Nat := enc x ++ encB (even x)
def eS (s : ByteArray) : List Nat := encS s ++ encS s
def whol (l : List Int) (s : List ByteArray) : List Nat := encIs l ++ l.flatMap eI ++ s.flatMap eS
def atI (l : List Int) (k : Nat) : Nat := (encIs l ++ (l.take k).flatMap eI).length
def atS (l : List Int) (s : List ByteArray) (k : Nat) : Nat := (encIs l ++ l.flatMap eI ++ (s.take k).flatMap eS).length
theorem encB_len1 (b : Bool) : (encB b).length = 1 := by cases b <;> rfl
theorem flat_at {α : Type} (f : α → List Nat) (l : List α) (k : Nat) (hk : k < l.length) : l.flatMap f = (l.take k).flatMap f ++ (f l[k] ++ (l.drop (k + 1)).flatMap f) := by
  conv => lhs; rw [← List.take_append_drop k l, List.drop_eq_getElem_cons hk]
  rw [List.flatMap_append, List.flatMap_cons]
theorem atI_zero (l : List Int) : atI l 0 = (encIs l).length := by simp [atI]
theorem atI_end (l : List Int) (s : List ByteArray) {k : Nat} (h : l.length ≤ k) : atI l k = atS l s 0 := by simp [atI, atS, List.take_of_length_le h]
theorem atS_end (l : List Int) (s : List ByteArray) {k : Nat} (h : s.length ≤ k) : atS l s k = (whol l s).length := by simp [atS, whol, List.take_of_length_le h]
theorem take_next {α : Type} (l : List α) (k : Nat) (hk : k < l.length) (f : α → List Nat) : (l.take (k + 1)).flatMap f = (l.take k).flatMap f ++ f l[k] := by
  rw [List.take_succ_eq_append_getElem hk, List.flatMap_append]; simp
theorem atI_succ (l : List Int) (k : Nat) (hk : k < l.length) : atI l (k + 1) = atI l k + (enc l[k]).length + 1 := by
  unfold atI
  rw [take_next l k hk]
  simp only [eI, List.length_append, encB_len1]
  omega
theorem atS_succ (l : List Int) (s : List ByteArray) (k : Nat) (hk : k < s.length) : atS l s (k + 1) = atS l s k + (encS s[k]).length + (encS s[k]).length := by
  unfold atS
  rw [take_next s k hk]
  simp only [eS, List.length_append]
  omega
theorem read_l (l : List Int) (s : List ByteArray) (rest : List Nat) (hl : l.length ≤ 60) (hok : ∀ x ∈ l, I64 x) : pIts 60 (whol l s ++ rest) 0 = some (l, atI l 0) := by
  have h := its_mid (mx := 60) l hok (by omega) (by omega) [] (l.flatMap eI ++ s.flatMap eS ++ rest)
  simp only [List.nil_append, List.length_nil, Nat.zero_add] at h
  rw [atI_zero, whol]
  rw [show encIs l ++ l.flatMap eI ++ s.flatMap eS ++ rest = encIs l ++ (l.flatMap eI ++ s.flatMap eS ++ rest) by simp only [List.append_assoc]]
  exact h
theorem read_i (l : List Int) (s : List ByteArray) (rest : List Nat) (k : Nat) (hk : k < l.length) (hok : I64 l[k]) : pBnd l[k] l[k] (whol l s ++ rest) (atI l k) = some (l[k], atI l k + (enc l[k]).length) ∧ pBool (whol l s ++ rest) (atI l k + (enc l[k]).length) = some (even l[k], atI l (k + 1)) := by
  have e : whol l s ++ rest = (encIs l ++ (l.take k).flatMap eI) ++ (enc l[k] ++ (encB (even l[k]) ++ ((l.drop (k + 1)).flatMap eI ++ s.flatMap eS ++ rest))) := by
    unfold whol
    rw [flat_at eI l k hk]
    simp only [eI, List.append_assoc]
  constructor
  · rw [e]
    exact bnd_mid hok (Int.le_refl _) (Int.le_refl _) _ _
  · rw [atI_succ l k hk, e, ← List.append_assoc]
    have h := bool_mid (even l[k]) ((encIs l ++ (l.take k).flatMap eI) ++ enc l[k]) ((l.drop (k + 1)).flatMap eI ++ s.flatMap eS ++ rest)
    have e2 : ((encIs l ++ (l.take k).flatMap eI) ++ enc l[k]).length = atI l k + (enc l[k]).length := by rw [List.length_append]; rfl
    rw [e2, encB_len1] at h
    exact h
theorem read_s (l : List Int) (s : List ByteArray) (rest : List Nat) (k : Nat) (hk : k < s.length) (hok : s[k].size ≤ 200) : pText (s[k].size : Int) (whol l s ++ rest) (atS l s k) = some (s[k], atS l s k + (encS s[k]).length) ∧ pBytes 200 (whol l s ++ rest) (atS l s k + (encS s[k]).length) = some (bytesOf s[k], atS l s (k + 1)) := by
  have e : whol l s ++ rest = (encIs l ++ l.flatMap eI ++ (s.take k).flatMap eS) ++ (encS s[k] ++ (encS s[k] ++ ((s.drop (k + 1)).flatMap eS ++ rest))) := by
    unfold whol
    rw [flat_at eS s k hk]
    simp only [eS, List.append_assoc]
  have el : ∀ x : ByteArray, (encS x).length = (enc (x.size : Int)).length + x.size := fun x => by rw [encS, List.length_append, bytesOf_len]
  constructor
  · have h := text_mid (mx := (s[k].size : Int)) s[k] (by omega) (Int.le_refl _) (encIs l ++ l.flatMap eI ++ (s.take k).flatMap eS) (encS s[k] ++ ((s.drop (k + 1)).flatMap eS ++ rest))
    rw [e, el, ← Nat.add_assoc]
    rw [← List.append_assoc (enc _), ← encS] at h
    exact h
  · have h := bytes_mid (mx := 200) (bytesOf s[k]) (by rw [bytesOf_len]; omega) (by rw [bytesOf_len]; omega) ((encIs l ++ l.flatMap eI ++ (s.take k).flatMap eS) ++ encS s[k]) ((s.drop (k + 1)).flatMap eS ++ rest)
    have e2 : ((encIs l ++ l.flatMap eI ++ (s.take k).flatMap eS) ++ encS s[k]).length = atS l s k + (encS s[k]).length := by rw [List.length_append]; rfl
    rw [bytesOf_len, e2, ← List.append_assoc (enc _), ← encS, Nat.add_assoc _ (enc _).length, ← el] at h
    rw [atS_succ l s k hk, e, ← List.append_assoc (encIs l ++ l.flatMap eI ++ (s.take k).flatMap eS)]
    exact h
theorem byt_flat {α : Type} (f : α → List Nat) (l : List α) (h : ∀ x ∈ l, Byt (f x)) : Byt (l.flatMap f) := by
  intro c hc
  obtain ⟨x, hx, hc2⟩ := List.mem_flatMap.1 hc
  exact h x hx c hc2
theorem encB_byt1 (b : Bool) : Byt (encB b) := by cases b <;> (unfold Byt encB; decide)
theorem whol_byt (l : List Int) (s : List ByteArray) (hl : l.length ≤ 60) (hok : ∀ x ∈ l, I64 x) (hs : ∀ x ∈ s, x.size ≤ 200) : Byt (whol l s) := by
  unfold whol encIs
  refine byt_app (byt_app (byt_app (enc_byt (by unfold I64; omega)) (byt_flat _ _ fun x hx => enc_byt (hok x hx))) (byt_flat _ _ fun x hx => byt_app (enc_byt (hok x hx)) (encB_byt1 _))) (byt_flat _ _ fun x hx => ?_)
  have h := encS_byt (s := x) (by have := hs x hx; omega)
  exact byt_app h h
theorem flatI_len : ∀ l : List Int, (l.flatMap eI).length ≤ l.length * 11
  | [] => by simp
  | x :: l => by
    have h1 := flatI_len l
    have h2 := enc_len x
    simp only [List.flatMap_cons, eI, List.length_append, encB_len1, List.length_cons] at h1 ⊢
    omega
theorem flatS_len : ∀ s : List ByteArray, (∀ x ∈ s, x.size ≤ 200) → (s.flatMap eS).length ≤ s.length * 420
  | [], _ => by simp
  | x :: s, h => by
    have h1 := flatS_len s fun y hy => h y (by simp [hy])
    have h2 := enc_len (x.size : Int)
    have h3 := h x (by simp)
    simp only [List.flatMap_cons, eS, encS, List.length_append, bytesOf_len, List.length_cons] at h1 ⊢
    omega
theorem encIs_len (l : List Int) : (encIs l).length ≤ 10 + l.length * 10 := by
  have h1 := enc_len (l.length : Int)
  have h2 := flati_len l
  unfold encIs
  rw [List.length_append]; omega
theorem whol_len (l : List Int) (s : List ByteArray) (hl : l.length ≤ 60) (hs : s.length ≤ 40) (hz : ∀ x ∈ s, x.size ≤ 200) : (whol l s).length ≤ 20000 := by
  have h1 := encIs_len l; have h2 := flatI_len l; have h3 := flatS_len s hz
  unfold whol
  simp only [List.length_append]; omega
theorem atI_le (l : List Int) (k : Nat) (hl : l.length ≤ 60) : atI l k ≤ 2000 := by
  have h1 := encIs_len l; have h2 := flatI_len (l.take k)
  unfold atI
  rw [List.length_take] at h2
  rw [List.length_append]; omega
theorem atS_le (l : List Int) (s : List ByteArray) (k : Nat) (hl : l.length ≤ 60) (hs : s.length ≤ 40) (hz : ∀ x ∈ s, x.size ≤ 200) : atS l s k ≤ 20000 := by
  have h1 := encIs_len l; have h2 := flatI_len l; have h3 := flatS_len (s.take k) fun x hx => hz x (List.mem_of_mem_take hx)
  unfold atS
  rw [List.length_take] at h3
  simp only [List.length_append]; omega
end Go.Proofs.Ytlimaefgifgegaa
