/- Plain arithmetic: reading the digits of a number in base 128; a slice of bytes in memory. -/
import Derived.Test.YtlimaefgifgegaaWireM
namespace Go.Proofs.Ytlimaefgifgegaa
open Go.RowKit

/-- The bytes xs lie at A. -/
def Bs (w : World) (A : Option Addr) (xs : List Nat) : Prop := xs = [] ∨ ∃ ad, A = some ad ∧ ∀ j c, xs[j]? = some c → w.cell? (ad.add j) = some (bv c)

def digF : Nat → Nat → List Nat → Nat × Nat
  | _, _, [] => (0, 0)
  | i, u, c :: r => if i = 9 ∧ 1 < c then (0, 0) else if c < 128 then (if c = 0 ∧ 0 < i then (0, 0) else (u + c * 128 ^ i, i + 1)) else digF (i + 1) (u + (c - 128) * 128 ^ i) r

theorem and127 (c : Nat) (h : c < 256) : bits .and .u8 (c : Int) 127 = ((c % 128 : Nat) : Int) := by
  have e8 : (127 : Int) = ((127 : Nat) : Int) := rfl
  rw [e8, (bits_nat .u8 8 (by decide) (fun n h1 h2 => wraps_u8 n h1 h2) c 127 (by omega) (by decide)).1]
  congr 1
  exact Nat.and_two_pow_sub_one_eq_mod c 7


theorem pow128 {i : Nat} (h : i ≤ 9) : 128 ^ i ≤ 9223372036854775808 := by
  calc 128 ^ i ≤ 128 ^ 9 := Nat.pow_le_pow_right (by decide) h
    _ ≤ 9223372036854775808 := by decide

theorem pow128_2 (i : Nat) : 2 ^ (7 * i) = 128 ^ i := by rw [Nat.pow_mul]

theorem or_add (u d i : Nat) (hu : u < 128 ^ i) (hs : u + d * 128 ^ i < 18446744073709551616) : bits .or .u64 (u : Int) ((d * 128 ^ i : Nat) : Int) = ((u + d * 128 ^ i : Nat) : Int) := by
  rw [u64_or_nat _ _ (by omega) (by omega)]
  congr 1
  rw [Nat.or_comm, nat_join (7 * i) (d * 128 ^ i) u (by rw [pow128_2]; exact Nat.mul_mod_left _ _) (by rw [pow128_2]; exact hu)]
  omega

theorem or_step (u c i : Nat) (hu : u < 128 ^ i) (hs : u + c % 128 * 128 ^ i < 18446744073709551616) :
    bits .or .u64 (u : Int) (IntKind.u64.wrap ((c : Int) % 128 * 2 ^ (7 * i))) = ((u + c % 128 * 128 ^ i : Nat) : Int) := by
  have e : (c : Int) % 128 * 2 ^ (7 * i) = ((c % 128 * 128 ^ i : Nat) : Int) := by
    rw [← pow128_2]; simp
  rw [e, u64_wraps _ (by omega) (by omega)]
  exact or_add u (c % 128) i hu hs
theorem or_room {u c i : Nat} (hu : u < 128 ^ i) (hi : i < 9) : u + c % 128 * 128 ^ i < 128 ^ (i + 1) ∧ u + c % 128 * 128 ^ i < 18446744073709551616 := by
  have h1 : u + c % 128 * 128 ^ i < 128 ^ (i + 1) := by
    have h2 : c % 128 * 128 ^ i ≤ 127 * 128 ^ i := Nat.mul_le_mul_right _ (by omega)
    rw [Nat.pow_succ]; omega
  have h3 := @pow128 (i + 1) (by omega)
  exact ⟨h1, by omega⟩
theorem or_room9 {u c : Nat} (hu : u < 128 ^ 9) (hc : ¬ 1 < c) : u + c % 128 * 128 ^ 9 < 18446744073709551616 := by
  have : c % 128 ≤ 1 := by omega
  have h2 : c % 128 * 128 ^ 9 ≤ 1 * 128 ^ 9 := Nat.mul_le_mul_right _ this
  omega
theorem dig_over {u c : Nat} {r : List Nat} (h : 1 < c) : digF 9 u (c :: r) = (0, 0) := by simp [digF, h]
theorem dig_zero {i u : Nat} {r : List Nat} (h : 0 < i) : digF i u (0 :: r) = (0, 0) := by simp [digF, h]
theorem dig_end {i u c : Nat} {r : List Nat} (h9 : ¬ (i = 9 ∧ 1 < c)) (hz : ¬ (c = 0 ∧ 0 < i)) (h : c < 128) : digF i u (c :: r) = (u + c % 128 * 128 ^ i, i + 1) := by
  simp [digF, h9, hz, h, Nat.mod_eq_of_lt h]
theorem dig_more {i u c : Nat} {r : List Nat} (hi : i < 9) (h : ¬ c < 128) (h2 : c < 256) : digF i u (c :: r) = digF (i + 1) (u + c % 128 * 128 ^ i) r := by
  have e : c % 128 = c - 128 := by omega
  have h9 : ¬ (i = 9 ∧ 1 < c) := by omega
  rw [e]; simp [digF, h9, h]
end Go.Proofs.Ytlimaefgifgegaa
