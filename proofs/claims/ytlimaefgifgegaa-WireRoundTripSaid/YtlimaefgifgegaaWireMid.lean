/- What the parsers make of an encoding's middle: texts, byte strings, integers within bounds, lists of integers. -/
import Derived.Test.YtlimaefgifgegaaWireIts
import Derived.Test.YtlimaefgifgegaaWireBts
namespace Go.Proofs.Ytlimaefgifgegaa
open Go.RowKit

theorem bnd_mid {lo hi n : Int} (h : I64 n) (h1 : lo ≤ n) (h2 : n ≤ hi) (pre rest : List Nat) : pBnd lo hi (pre ++ (enc n ++ rest)) pre.length = some (n, pre.length + (enc n).length) :=
  (pBnd_enc h (at_mid pre _ rest)).trans (if_pos ⟨h1, h2⟩)
theorem mid_part (pre e m rest : List Nat) : ((pre ++ (e ++ (m ++ rest))).drop (pre.length + e.length)).take m.length = m := by
  rw [← List.append_assoc, List.drop_left' (by rw [List.length_append])]
  exact List.take_left' rfl
theorem part_mid {mx : Int} (m : List Nat) (h : m.length ≤ 9223372036854775807) (hm : (m.length : Int) ≤ mx) (pre rest : List Nat) :
    pPart mx (pre ++ (enc (m.length : Int) ++ (m ++ rest))) pre.length = some (pre.length + (enc (m.length : Int)).length, m.length) := by
  unfold pPart
  rw [bnd_mid (by unfold I64; omega) (by omega) hm]
  simp only [Int.toNat_natCast]
  rw [if_pos (by simp only [List.length_append]; omega)]
theorem bytes_mid {mx : Int} (m : List Nat) (h : m.length ≤ 9223372036854775807) (hm : (m.length : Int) ≤ mx) (pre rest : List Nat) :
    pBytes mx (pre ++ (enc (m.length : Int) ++ (m ++ rest))) pre.length = some (m, pre.length + (enc (m.length : Int)).length + m.length) := by
  unfold pBytes
  rw [part_mid m h hm, Option.map_some]
  simp only
  rw [mid_part]
theorem strOf_bytesOf (s : ByteArray) : strOf (bytesOf s) = s := by
  unfold strOf bytesOf
  apply ByteArray.ext
  apply Array.toList_inj.1
  simp [List.map_map, Function.comp_def]
theorem text_mid {mx : Int} (s : ByteArray) (h : s.size ≤ 9223372036854775807) (hm : (s.size : Int) ≤ mx) (pre rest : List Nat) :
    pText mx (pre ++ (enc (s.size : Int) ++ (bytesOf s ++ rest))) pre.length = some (s, pre.length + (enc (s.size : Int)).length + s.size) := by
  have e := part_mid (mx := mx) (bytesOf s) (by rw [bytesOf_len]; exact h) (by rw [bytesOf_len]; exact hm) pre rest
  rw [bytesOf_len] at e
  unfold pText
  rw [e, Option.map_some]
  simp only
  have m := mid_part pre (enc (s.size : Int)) (bytesOf s) rest
  rw [bytesOf_len] at m
  unfold tstr
  rw [m, strOf_bytesOf]
theorem its_list : ∀ (l : List Int), (∀ x ∈ l, I64 x) → ∀ pre rest : List Nat, pList pInt l.length (pre ++ (l.flatMap enc ++ rest)) pre.length = some (l, pre.length + (l.flatMap enc).length)
  | [], _, pre, rest => by simp [pList]
  | x :: l, h, pre, rest => by
    have h1 := int_mid (h x (by simp)) pre (l.flatMap enc ++ rest)
    have ih := its_list l (fun z hz => h z (by simp [hz])) (pre ++ enc x) rest
    rw [List.append_assoc, List.length_append] at ih
    rw [List.flatMap_cons, List.append_assoc, List.length_cons, pList_some h1, ih, Option.map_some, List.length_append, Nat.add_assoc]
theorem its_mid {mx : Int} (l : List Int) (h : ∀ x ∈ l, I64 x) (hl : l.length ≤ 9223372036854775807) (hm : (l.length : Int) ≤ mx) (pre rest : List Nat) :
    pIts mx (pre ++ (encIs l ++ rest)) pre.length = some (l, pre.length + (encIs l).length) := by
  unfold pIts encIs
  rw [List.append_assoc, bnd_mid (by unfold I64; omega) (by omega) hm]
  simp only [Int.toNat_natCast]
  have ih := its_list l h (pre ++ enc (l.length : Int)) rest
  rw [List.append_assoc, List.length_append] at ih
  rw [ih, List.length_append, Nat.add_assoc]
end Go.Proofs.Ytlimaefgifgegaa
