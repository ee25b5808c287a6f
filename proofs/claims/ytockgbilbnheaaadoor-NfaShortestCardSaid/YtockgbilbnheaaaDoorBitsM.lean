/- Sets as lists of words: what is read, the valid form, the elements. Of no program. -/
import Derived.Test.YtockgbilbnheaaaDoorBytes
import Derived.Test.YtockgbilbnheaaaDoorBitsPop
namespace Go.Proofs.YtockgbilbnheaaaDoor

def Wds (ws : List Nat) : Prop := ∀ x ∈ ws, U64 x
theorem Wds.at {ws : List Nat} (h : Wds ws) (i : Nat) : U64 (ws[i]?.getD 0) := by
 cases e : ws[i]? with
 | none => simp [U64]
 | some x => exact h x (List.mem_of_getElem? e)
theorem Wds.take {ws : List Nat} (h : Wds ws) (n : Nat) : Wds (ws.take n) := fun x hx => h x (List.mem_of_mem_take hx)
/-- Word i of a set, as its elements count. -/
def wat (ws : List Nat) (i : Nat) : Nat := if i < 64 then ws[i]?.getD 0 else 0
theorem Wds.wat {ws : List Nat} (h : Wds ws) (i : Nat) : U64 (wat ws i) := by
 unfold Proofs.YtockgbilbnheaaaDoor.wat
 split
 ·exact h.at i
 ·simp [U64]
def back (ws : List Nat) : Nat → Nat
 | 0 => 0
 | n + 1 => if ws[n]?.getD 0 = 0 then back ws n else n + 1
def ulen (ws : List Nat) : Nat := back ws (min ws.length 64)
def used (ws : List Nat) : List Nat := ws.take (ulen ws)
def Canon (ws : List Nat) : Prop := ulen ws = ws.length

theorem back_le (ws : List Nat) : ∀ n, back ws n ≤ n
 | 0 => Nat.le_refl _
 | n + 1 => by
  have := back_le ws n
  unfold back
  split <;> omega
theorem back_zero (ws : List Nat) : ∀ n i, back ws n ≤ i → i < n → ws[i]?.getD 0 = 0
 | 0, i, _, h => by omega
 | n + 1, i, h1, h2 => by
  unfold back at h1
  split at h1
  ·rename_i h0
   by_cases e : i = n
   ·rw [e]; exact h0
   ·exact back_zero ws n i h1 (by omega)
  ·omega
theorem back_top (ws : List Nat) : ∀ n, back ws n ≠ 0 → ws[back ws n - 1]?.getD 0 ≠ 0
 | 0, h => by simp [back] at h
 | n + 1, h => by
  unfold back at h ⊢
  split
  ·rename_i h0
   rw [if_pos h0] at h
   exact back_top ws n h
  ·rename_i h0
   simpa using h0
theorem ulen_le (ws : List Nat) : ulen ws ≤ ws.length ∧ ulen ws ≤ 64 := by
 have := back_le ws (min ws.length 64)
 unfold ulen
 omega
theorem wat_zero (ws : List Nat) (i : Nat) (h : ulen ws ≤ i) : wat ws i = 0 := by
 unfold wat
 split
 ·rename_i hi
  by_cases hl : i < ws.length
  ·exact back_zero ws _ i h (by omega)
  ·rw [List.getElem?_eq_none (by omega)]; rfl
 ·rfl
theorem wat_top (ws : List Nat) (h : ulen ws ≠ 0) : wat ws (ulen ws - 1) ≠ 0 := by
 have h1 := back_top ws (min ws.length 64) h
 have h2 := ulen_le ws
 unfold wat
 rw [if_pos (by omega)]
 exact h1
theorem wat_lt (ws : List Nat) (i : Nat) (h : i < ulen ws) : wat ws i = ws[i]?.getD 0 := by
 have := (ulen_le ws).2
 unfold wat
 rw [if_pos (by omega)]
theorem used_len (ws : List Nat) : (used ws).length = ulen ws := by
 have := (ulen_le ws).1
 simp [used]; omega
theorem wat_used (ws : List Nat) (i : Nat) : wat (used ws) i = wat ws i := by
 by_cases h : i < ulen ws
 ·have h2 := (ulen_le ws).2
  unfold wat used
  rw [if_pos (by omega), if_pos (by omega), List.getElem?_take, if_pos h]
 ·rw [wat_zero ws i (by omega)]
  unfold wat
  split
  ·rw [List.getElem?_eq_none (by rw [used_len]; omega)]; rfl
  ·rfl
theorem ulen_ext {a b : List Nat} (h : ∀ i, wat a i = wat b i) : ulen a = ulen b := by
 apply Nat.le_antisymm
 ·apply Nat.le_of_not_lt
  intro hlt
  exact wat_top a (by omega) ((h _).trans (wat_zero b _ (by omega)))
 ·apply Nat.le_of_not_lt
  intro hlt
  exact wat_top b (by omega) ((h _).symm.trans (wat_zero a _ (by omega)))
theorem used_ext {a b : List Nat} (h : ∀ i, wat a i = wat b i) : used a = used b := by
 have hl := ulen_ext h
 apply List.ext_getElem?
 intro i
 by_cases hi : i < ulen a
 ·have h1 := h i
  rw [wat_lt a i hi, wat_lt b i (by omega)] at h1
  have ha := (ulen_le a).1
  have hb := (ulen_le b).1
  rw [used, used, List.getElem?_take, List.getElem?_take, if_pos hi, if_pos (by omega), List.getElem?_eq_getElem (by omega), List.getElem?_eq_getElem (by omega)]
  rw [List.getElem?_eq_getElem (by omega), List.getElem?_eq_getElem (by omega)] at h1
  simpa using h1
 ·rw [List.getElem?_eq_none (by rw [used_len]; omega), List.getElem?_eq_none (by rw [used_len]; omega)]
theorem wat_ext {a b : List Nat} (h : used a = used b) (i : Nat) : wat a i = wat b i := by rw [← wat_used a, ← wat_used b, h]
theorem used_iff {a b : List Nat} : used a = used b ↔ ∀ i, wat a i = wat b i := ⟨wat_ext, used_ext⟩
theorem used_canon (ws : List Nat) : Canon (used ws) := by
 unfold Canon
 rw [ulen_ext (wat_used ws), used_len]
theorem Canon.used {ws : List Nat} (h : Canon ws) : used ws = ws := by
 unfold Proofs.YtockgbilbnheaaaDoor.used
 rw [show ulen ws = ws.length from h, List.take_length]
theorem Wds.used {ws : List Nat} (h : Wds ws) : Wds (used ws) := h.take _

/-- Two sets, combined word by word. -/
def comb (op : Nat → Nat → Nat) (m : Nat) (a b : List Nat) : List Nat := (List.range m).map fun i => op (a[i]?.getD 0) (b[i]?.getD 0)
theorem wat_comb {op : Nat → Nat → Nat} (h0 : op 0 0 = 0) (a b : List Nat) (i : Nat) : wat (comb op (max (ulen a) (ulen b)) a b) i = op (wat a i) (wat b i) := by
 have ha := (ulen_le a).2
 have hb := (ulen_le b).2
 by_cases h : i < max (ulen a) (ulen b)
 ·unfold wat comb
  rw [if_pos (by omega), if_pos (by omega), if_pos (by omega), List.getElem?_map, List.getElem?_range h]
  rfl
 ·rw [wat_zero a i (by omega), wat_zero b i (by omega), h0]
  unfold wat
  split
  ·rw [List.getElem?_eq_none (by simp [comb]; omega)]; rfl
  ·rfl
/-- Union, Inter, Minus. -/
def setop (op : Nat → Nat → Nat) (a b : List Nat) : List Nat := used (comb op (max (ulen a) (ulen b)) a b)
def andn (x y : Nat) : Nat := x ^^^ (x &&& y)
theorem wat_setop {op : Nat → Nat → Nat} (h0 : op 0 0 = 0) (a b : List Nat) (i : Nat) : wat (setop op a b) i = op (wat a i) (wat b i) := by
 unfold setop
 rw [wat_used, wat_comb h0]
theorem setop_canon (op : Nat → Nat → Nat) (a b : List Nat) : Canon (setop op a b) := used_canon _
theorem setop_len (op : Nat → Nat → Nat) (a b : List Nat) : (setop op a b).length ≤ 64 := by
 have := (ulen_le (comb op (max (ulen a) (ulen b)) a b)).2
 unfold setop
 rw [used_len]; exact this
theorem comb_wds {op : Nat → Nat → Nat} (hop : ∀ x y, U64 x → U64 y → U64 (op x y)) {a b : List Nat} (ha : Wds a) (hb : Wds b) (m : Nat) : Wds (comb op m a b) := by
 intro x hx
 obtain ⟨i, _, rfl⟩ := List.mem_map.1 hx
 exact hop _ _ (ha.at i) (hb.at i)
theorem setop_wds {op : Nat → Nat → Nat} (hop : ∀ x y, U64 x → U64 y → U64 (op x y)) {a b : List Nat} (ha : Wds a) (hb : Wds b) : Wds (setop op a b) := (comb_wds hop ha hb _).used
theorem or_u64 (x y : Nat) (hx : U64 x) (hy : U64 y) : U64 (x ||| y) := Nat.or_lt_two_pow (n := 64) hx hy
theorem and_u64 (x y : Nat) (_ : U64 x) (hy : U64 y) : U64 (x &&& y) := Nat.and_lt_two_pow (n := 64) _ hy
theorem andn_u64 (x y : Nat) (hx : U64 x) (hy : U64 y) : U64 (andn x y) := Nat.xor_lt_two_pow (n := 64) hx (and_u64 x y hx hy)
theorem andn_bit (x y i : Nat) : (andn x y).testBit i = (x.testBit i && !y.testBit i) := by
 unfold andn
 rw [Nat.testBit_xor, Nat.testBit_and]
 cases x.testBit i <;> cases y.testBit i <;> rfl
theorem andn_eq (x y : Nat) (hx : U64 x) (hy : U64 y) : x &&& (18446744073709551615 - y) = andn x y := by
 apply Nat.eq_of_testBit_eq
 intro i
 rw [andn_bit, Nat.testBit_and, show 18446744073709551615 - y = 2 ^ 64 - (y + 1) by omega, Nat.testBit_two_pow_sub_succ hy]
 by_cases hi : i < 64
 ·simp [hi]
 ·have h64 : (2 : Nat) ^ 64 ≤ 2 ^ i := Nat.pow_le_pow_right (by decide) (by omega)
  rw [Nat.testBit_lt_two_pow (Nat.lt_of_lt_of_le hx h64)]
  simp

/-! The elements -/
def has (ws : List Nat) (n : Nat) : Bool := (wat ws (n / 64)).testBit (n % 64)
def elsW (ws : List Nat) (m : Nat) : List Nat := (List.range (64 * m)).filter (has ws)
def els (ws : List Nat) : List Nat := elsW ws 64
def bitl (w : Nat) : List Nat := (List.range 64).filter w.testBit
theorem bitl_zero : bitl 0 = [] := by
 unfold bitl
 rw [List.filter_eq_nil_iff]
 intro a _
 simp
theorem elsW_succ (ws : List Nat) (m : Nat) : elsW ws (m + 1) = elsW ws m ++ (bitl (wat ws m)).map (64 * m + ·) := by
 unfold elsW bitl
 rw [show 64 * (m + 1) = 64 * m + 64 by omega, List.range_add, List.filter_append, List.filter_map]
 congr 2
 apply List.filter_congr
 intro i hi
 rw [List.mem_range] at hi
 simp only [Function.comp, has]
 rw [show (64 * m + i) / 64 = m by omega, show (64 * m + i) % 64 = i by omega]
theorem elsW_zero (ws : List Nat) : elsW ws 0 = [] := rfl
theorem elsW_ulen (ws : List Nat) : elsW ws (ulen ws) = els ws := by
 have hall : ∀ k, ulen ws + k ≤ 64 → elsW ws (ulen ws + k) = elsW ws (ulen ws) := by
  intro k
  induction k with
  | zero => intro _; rfl
  | succ k ih =>
   intro hk
   rw [← Nat.add_assoc, elsW_succ, wat_zero ws _ (by omega), bitl_zero, List.map_nil, List.append_nil]
   exact ih (by omega)
 have h := (ulen_le ws).2
 have := hall (64 - ulen ws) (by omega)
 rw [show ulen ws + (64 - ulen ws) = 64 by omega] at this
 exact this.symm
theorem els_ext {a b : List Nat} (h : ∀ i, wat a i = wat b i) : els a = els b := by
 unfold els elsW
 apply List.filter_congr
 intro n _
 simp only [has, h]
theorem els_used (ws : List Nat) : els (used ws) = els ws := els_ext (wat_used ws)
theorem has_big (ws : List Nat) (n : Nat) (h : 4096 ≤ n) : has ws n = false := by
 unfold has
 rw [show wat ws (n / 64) = 0 by unfold wat; rw [if_neg (by omega)]]
 simp
theorem mem_els (ws : List Nat) (n : Nat) : n ∈ els ws ↔ has ws n = true := by
 unfold els elsW
 rw [List.mem_filter, List.mem_range]
 constructor
 ·exact fun h => h.2
 ·intro h
  refine ⟨?_, h⟩
  apply Nat.lt_of_not_le
  intro hn
  rw [has_big ws n (by omega)] at h
  cases h
theorem has_iff {a b : List Nat} (ha : Wds a) (hb : Wds b) : (∀ n, has a n = has b n) ↔ ∀ i, wat a i = wat b i := by
 constructor
 ·intro h i
  apply Nat.eq_of_testBit_eq
  intro k
  by_cases hk : k < 64
  ·have := h (64 * i + k)
   unfold has at this
   rwa [show (64 * i + k) / 64 = i by omega, show (64 * i + k) % 64 = k by omega] at this
  ·have h64 : (2 : Nat) ^ 64 ≤ 2 ^ k := Nat.pow_le_pow_right (by decide) (by omega)
   rw [Nat.testBit_lt_two_pow (Nat.lt_of_lt_of_le (ha.wat i) h64), Nat.testBit_lt_two_pow (Nat.lt_of_lt_of_le (hb.wat i) h64)]
 ·intro h n
  simp only [has, h]
theorem els_iff {a b : List Nat} (ha : Wds a) (hb : Wds b) : els a = els b ↔ used a = used b := by
 rw [used_iff, ← has_iff ha hb]
 constructor
 ·intro h n
  have h1 := mem_els a n
  rw [h, mem_els b n] at h1
  cases x : has a n <;> cases y : has b n <;> simp_all
 ·intro h
  unfold els elsW
  exact List.filter_congr fun n _ => h n
def slen (ws : List Nat) : Nat := ((used ws).map pc).sum
theorem bitl_len (w : Nat) : (bitl w).length = pc w := rfl
theorem slen_els (ws : List Nat) : slen ws = (els ws).length := by
 have hp : ∀ m, m ≤ ulen ws → ((ws.take m).map pc).sum = (elsW ws m).length := by
  intro m
  induction m with
  | zero => intro _; simp [elsW]
  | succ m ih =>
   intro hm
   have hl := (ulen_le ws).1
   have h1 : ws[m]? = some (ws[m]'(by omega)) := List.getElem?_eq_getElem (by omega)
   rw [elsW_succ, List.length_append, List.length_map, ← ih (by omega), bitl_len, wat_lt ws m (by omega), h1, List.take_add_one, h1, List.map_append, List.sum_append]
   simp only [Option.toList_some, Option.getD_some, List.map_cons, List.map_nil, List.sum_cons, List.sum_nil, Nat.add_zero]
 unfold slen used
 rw [hp _ (Nat.le_refl _), elsW_ulen]
theorem els_len_le (ws : List Nat) : (els ws).length ≤ 4096 := by
 unfold els elsW
 exact Nat.le_trans (List.length_filter_le _ _) (by simp)
theorem els_nil (ws : List Nat) (hw : Wds ws) : (els ws).length = 0 ↔ ∀ i, wat ws i = 0 := by
 have h0 : ∀ i, wat [] i = 0 := fun i => by simp [wat]
 have e0 : els [] = [] := by
  unfold els elsW
  rw [List.filter_eq_nil_iff]
  intro n _
  simp [has, h0]
 rw [List.length_eq_zero_iff, ← e0, els_iff hw (by intro x hx; cases hx), used_iff]
 simp only [h0]
end Go.Proofs.YtockgbilbnheaaaDoor
