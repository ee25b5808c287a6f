/- Layer 9: the contracts of the sorts of bytes, and of span. -/
import Derived.Test.YtolanmdckdjfeaaRows
import Derived.WalkKit
import Derived.WalkSpells
import Derived.WalkLawsBesides
import Derived.Lib.Hide
import Derived.Deep.QuietTactic
import Derived.BigQuiet
import Derived.Test.YtolanmdckdjfeaaLexM
namespace Go.Proofs.Ytolanmdckdjfeaa
open Go.RowKit

def BoolIs (b : Bool) (w : World) (e : Ending) (w' : World) : Prop := e = .returned (.bool b) ∧ w = w'
def ofL (l : List UInt8) : ByteArray := ⟨l.toArray⟩
theorem BoolIs.mk {b b' : Bool} {w : World} (h : b' = b) : BoolIs b w (.returned (.bool b')) w := ⟨by rw [h], rfl⟩

theorem isLetter_any (n : Nat) (w : World) : Calls Try.prog 29 #[.int .u8 (n : Int)] w (BoolIs (cL n) w) := by
  go_enter Try.func29, Try.ntmps29
  go_wp2
  all_goals
    go_ret
    refine BoolIs.mk ?_
    rw [Bool.eq_iff_iff]
    simp [cL]
    omega
theorem isDigit_any (n : Nat) (w : World) : Calls Try.prog 47 #[.int .u8 (n : Int)] w (BoolIs (cD n) w) := by
  go_enter Try.func47, Try.ntmps47
  go_wp2
  all_goals
    go_ret
    refine BoolIs.mk ?_
    rw [Bool.eq_iff_iff]
    simp [cD]
    omega
theorem isBlank_any (n : Nat) (w : World) : Calls Try.prog 41 #[.int .u8 (n : Int)] w (BoolIs (cB n) w) := by
  go_enter Try.func41, Try.ntmps41
  go_wp2
  all_goals
    go_ret
    refine BoolIs.mk ?_
    rw [Bool.eq_iff_iff]
    simp [cB]
    omega
theorem isInLine_any (n : Nat) (w : World) : Calls Try.prog 44 #[.int .u8 (n : Int)] w (BoolIs (cI n) w) := by
  go_enter Try.func44, Try.ntmps44
  go_wp2
  all_goals
    go_ret
    refine BoolIs.mk ?_
    rw [Bool.eq_iff_iff]
    simp [cI]
    omega
theorem isEscaped_any (n : Nat) (w : World) : Calls Try.prog 37 #[.int .u8 (n : Int)] w (BoolIs (cE n) w) := by
  go_enter Try.func37, Try.ntmps37
  go_wp2
  all_goals
    go_ret
    refine BoolIs.mk ?_
    rw [Bool.eq_iff_iff]
    simp [cE]
    omega
theorem isNamePart_any (n : Nat) (w : World) : Calls Try.prog 31 #[.int .u8 (n : Int)] w (BoolIs (cN n) w) := by
  cases h1 : cL n with
  | true =>
    have H : Hid (cN n = true) := by simp [Hid, cN, h1]
    go_enter Try.func31, Try.ntmps31
    go_wp2_with (go_at_call 29; refine (isLetter_any _ _).mono ?_; rintro e w' ⟨rfl, rfl⟩)
    all_goals
      go_ret
      exact BoolIs.mk H.out.symm
  | false =>
    cases h2 : cD n with
    | true =>
      have H : Hid (cN n = true) := by simp [Hid, cN, h1, h2]
      go_enter Try.func31, Try.ntmps31
      go_wp2_with (first | (go_at_call 29; refine (isLetter_any _ _).mono ?_; rintro e w' ⟨rfl, rfl⟩) | (go_at_call 47; refine (isDigit_any _ _).mono ?_; rintro e w' ⟨rfl, rfl⟩))
      all_goals
        go_ret
        exact BoolIs.mk H.out.symm
    | false =>
      have H : Hid (cN n = decide (n = 95)) := by simp [Hid, cN, h1, h2]
      go_enter Try.func31, Try.ntmps31
      go_wp2_with (first | (go_at_call 29; refine (isLetter_any _ _).mono ?_; rintro e w' ⟨rfl, rfl⟩) | (go_at_call 47; refine (isDigit_any _ _).mono ?_; rintro e w' ⟨rfl, rfl⟩))
      all_goals
        go_ret
        refine BoolIs.mk ?_
        rw [H.out, Bool.eq_iff_iff]
        simp
        omega

/-- A function value that answers whether a byte is of a sort. -/
def IsSort (f : Nat) (p : Nat → Bool) : Prop := ∀ (n : Nat) (w : World), Calls Try.prog f #[.int .u8 (n : Int)] w (BoolIs (p n) w)
def SpnRel (s : ByteArray) (p : Nat → Bool) (v : Value) : Prop := ∃ k : Nat, k ≤ s.size ∧ v = .int .i64 k ∧ ∀ (j : Nat) (c : UInt8), j < k → s.data.toList[j]? = some c → p c.toNat = true
def SpnPost (s : ByteArray) (p : Nat → Bool) (w : World) (e : Ending) (w' : World) : Prop := e = .returned (.int .i64 (spn p s.data.toList : Nat)) ∧ w = w'
theorem SpnPost.mk {s : ByteArray} {p : Nat → Bool} {w : World} {k : Nat} (hk : k ≤ s.size) (h1 : ∀ (j : Nat) (c : UInt8), j < k → s.data.toList[j]? = some c → p c.toNat = true) (h2 : ∀ c, s.data.toList[k]? = some c → p c.toNat = false) :
    SpnPost s p w (.returned (.int .i64 (k : Nat))) w := by
  refine ⟨?_, rfl⟩
  rw [spn_eq (l := s.data.toList) (k := k) (by simpa using hk) h1 h2]
theorem ba_get (s : ByteArray) (k : Nat) (h : k < s.size) : s.data.toList[k]? = some s[k] := by
  rw [Array.getElem?_toList]
  exact Array.getElem?_eq_getElem h
end Go.Proofs.Ytolanmdckdjfeaa
