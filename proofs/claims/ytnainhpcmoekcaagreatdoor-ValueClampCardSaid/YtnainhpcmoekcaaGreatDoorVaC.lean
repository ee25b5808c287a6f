/- value: what strings.Replacer makes of a string: plain facts; rows of bytes. -/
import Derived.Test.YtnainhpcmoekcaaGreatDoorVaN
import Derived.Laws.CopyRow
namespace Go.Proofs.YtnainhpcmoekcaaGreatDoor
open Go.RowKit

def spc (c : UInt8) : Bool := decide (c.toNat = 34 ∨ c.toNat = 92)
def escB (c : UInt8) : Bs := if spc c then [92, c] else [c]
def escL (s : Bs) : Bs := s.flatMap escB
def cntE (s : Bs) : Nat := s.countP spc
theorem escL_len (s : Bs) : (escL s).length = s.length + cntE s := by
 induction s with
 | nil => rfl
 | cons c s ih =>
  have e : escL (c :: s) = escB c ++ escL s := by simp [escL]
  rw [e, List.length_append, ih]
  unfold cntE escB
  rw [List.countP_cons]
  split <;> simp <;> omega
theorem escL_none {s : Bs} (h : cntE s = 0) : escL s = s := by
 induction s with
 | nil => rfl
 | cons c s ih =>
  unfold cntE at h
  rw [List.countP_cons] at h
  have h1 : spc c = false := by
   cases hc : spc c with
   | false => rfl
   | true => rw [hc] at h; simp at h
  have e : escL (c :: s) = escB c ++ escL s := by simp [escL]
  rw [e, ih (by unfold cntE; omega)]
  simp [escB, h1]
theorem escL_next {s : Bs} {k : Nat} (hk : k < s.length) : escL (s.take (k + 1)) = escL (s.take k) ++ escB s[k] := by
 rw [List.take_succ_eq_append_getElem hk]
 unfold escL
 rw [List.flatMap_append, List.flatMap_cons, List.flatMap_nil, List.append_nil]
theorem cnt_next {s : Bs} {k : Nat} (hk : k < s.length) : cntE (s.take (k + 1)) = cntE (s.take k) + (if spc s[k] then 1 else 0) := by
 rw [List.take_succ_eq_append_getElem hk]
 unfold cntE
 rw [List.countP_append, List.countP_cons, List.countP_nil, Nat.zero_add]
theorem cnt_le (s : Bs) (k : Nat) : cntE (s.take k) ≤ cntE s := by
 unfold cntE
 conv => rhs; rw [← List.take_append_drop k s]
 rw [List.countP_append]
 omega
theorem cnt_len (s : Bs) : cntE s ≤ s.length := List.countP_le_length
theorem escL_pre (s : Bs) (k : Nat) : (escL (s.take k)).length ≤ (escL s).length := by
 conv => rhs; rw [← List.take_append_drop k s]
 unfold escL
 rw [List.flatMap_append, List.length_append]
 omega
def u8v (c : UInt8) : Value := .int .u8 (c.toNat : Int)
/-- A row of n bytes that begins with l; the rest is 0. -/
def rowE (l : Bs) (n : Nat) : Array Value := (l.map u8v ++ List.replicate (n - l.length) (Value.int .u8 0)).toArray
theorem rowE_size {l : Bs} {n : Nat} (h : l.length ≤ n) : (rowE l n).size = n := by unfold rowE; simp; omega
theorem rowE_set {l : Bs} {n : Nat} (c : UInt8) (h : l.length < n) : (rowE l n).setIfInBounds l.length (u8v c) = rowE (l ++ [c]) n := by
 unfold rowE
 obtain ⟨m, hm⟩ : ∃ m, n - l.length = m + 1 := ⟨n - l.length - 1, by omega⟩
 have e : n - (l ++ [c]).length = m := by simp; omega
 rw [hm, e, List.setIfInBounds_toArray]
 congr 1
 rw [List.set_append, if_neg (by simp), List.replicate_succ]
 simp
theorem rowE_copy {l : Bs} {n : Nat} (a b : UInt8) (_h : l.length + 2 ≤ n) : ((rowE l n).toList.take l.length ++ [u8v a, u8v b] ++ (rowE l n).toList.drop (l.length + 2)).toArray = rowE (l ++ [a, b]) n := by
 unfold rowE
 have e : n - (l ++ [a, b]).length = n - l.length - 2 := by simp; omega
 rw [e]
 congr 1
 rw [List.toList_toArray, List.take_left' (by simp), List.drop_append, List.drop_of_length_le (by simp), List.drop_replicate]
 simp
theorem rowE_made (n : Nat) : madeCells #[.int .u8 0] n = rowE [] n := by
 apply Array.ext'
 rw [toList_madeCells_one]
 simp [rowE]
theorem rowE_str {w : World} {g : Nat} {l : Bs} (h : Bx w g 5 (rowE l l.length)) : (convert 84 9 (.slice (some ⟨g, 0, none⟩) l.length l.length)).run Tryz.prog w = .ok (.string (ofL l)) w := by
 refine run_convert_bytes_back w 84 9 5 ⟨g, 0, none⟩ l.length l Tryz.underlying84 Tryz.underlying5 Tryz.underlying9 fun j hj => ?_
 rw [addr_0, h.cell j]
 simp [rowE, u8v, hj]
/-- The table of a replacer: what its cells hold. -/
structure Tab8 (w : World) (q : Nat) (f : Nat → Value) (A : Option Addr) (c : Nat) : Prop where
 at_ : ∀ x, x < 256 → w.cell? ⟨q, x, none⟩ = some (f x)
 top : w.cell? ⟨q, 256, none⟩ = some (.slice A 2 c)
 nil : ∀ x, x < 256 → x ≠ 34 → x ≠ 92 → f x = .slice none 0 0
 two : ∀ x, x = 34 ∨ x = 92 → By2 w (f x) 92 x
theorem Brp.tab {w : World} {q : Nat} (h : Brp w q) : ∃ f A c, Tab8 w q f A c ∧ q < w.heap.size := by
 obtain ⟨f, t, A, c, h1, rfl, h3⟩ := h.ex
 refine ⟨f, A, c, ⟨fun x hx => h1.at hx, h1.top, fun x h0 h2 h4 => h3.nil x h0 (.inl h4) (.inl h2), fun x hx => ?_⟩, h1.lt⟩
 rcases hx with rfl | rfl
 ·exact h3.two (by omega)
 ·exact h3.one (by omega)
theorem Tab8.below {w w' : World} {q : Nat} {f : Nat → Value} {A : Option Addr} {c : Nat} (h : Tab8 w q f A c) (hq : q < w.heap.size) (hb : Below w.heap.size w w') : Tab8 w' q f A c :=
 ⟨fun x hx => (hb.cell hq).trans (h.at_ x hx), (hb.cell hq).trans h.top, h.nil, fun x hx => (h.two x hx).ku (KU.below hb)⟩
end Go.Proofs.YtnainhpcmoekcaaGreatDoor
