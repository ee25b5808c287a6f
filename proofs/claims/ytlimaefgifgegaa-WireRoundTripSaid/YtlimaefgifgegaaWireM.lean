/- Plain arithmetic of the wire format: zigzag, digits in base 128. -/
import Derived.Test.YtlimaefgifgegaaBytes
namespace Go.Proofs.Ytlimaefgifgegaa
open Go.RowKit

def zig (n : Int) : Nat := if 0 ≤ n then (2 * n).toNat else (-2 * n - 1).toNat
def encF : Nat → Nat → List Nat
  | 0, u => [u]
  | f + 1, u => if u < 128 then [u] else (u % 128 + 128) :: encF f (u / 128)
def enc (n : Int) : List Nat := encF 9 (zig n)

theorem zig_lt (n : Int) (h1 : -9223372036854775808 ≤ n) (h2 : n ≤ 9223372036854775807) : zig n < 18446744073709551616 := by
  unfold zig; split <;> omega

theorem zig_bits (n : Int) (h1 : -9223372036854775808 ≤ n) (h2 : n ≤ 9223372036854775807) :
    bits .xor .u64 (IntKind.u64.wrap (IntKind.u64.wrap n * 2)) (IntKind.u64.wrap (n / 9223372036854775808)) = (zig n : Int) := by
  simp only [IntKind.wrap_u64]
  by_cases hn : 0 ≤ n
  · have e1 : n / 9223372036854775808 = 0 := by omega
    have e2 : (n % 18446744073709551616 * 2) % 18446744073709551616 = ((2 * n).toNat : Int) := by omega
    have e3 : (0 : Int) % 18446744073709551616 = ((0 : Nat) : Int) := by omega
    rw [e1, e2, e3, u64_xor_nat _ _ (by omega) (by omega)]
    simp [zig, hn]
  · have e1 : n / 9223372036854775808 = -1 := by omega
    have e2 : (n % 18446744073709551616 * 2) % 18446744073709551616 = ((18446744073709551615 - (-2 * n - 1).toNat : Nat) : Int) := by omega
    have e3 : (-1 : Int) % 18446744073709551616 = ((18446744073709551615 : Nat) : Int) := by omega
    have hz : zig n = (-2 * n - 1).toNat := by simp [zig, hn]
    rw [e1, e2, e3, u64_xor_nat _ _ (by omega) (by omega), hz]
    have hlt : (-2 * n - 1).toNat < 2 ^ 64 := by omega
    congr 1
    have key : ∀ m : Nat, m < 2 ^ 64 → (18446744073709551615 - m) ^^^ 18446744073709551615 = m := by
      intro m hm
      have e : 18446744073709551615 - m = (~~~ (BitVec.ofNat 64 m)).toNat := by
        rw [BitVec.toNat_not, BitVec.toNat_ofNat, Nat.mod_eq_of_lt hm]
      have h3 : ((~~~ BitVec.ofNat 64 m) ^^^ BitVec.allOnes 64).toNat = m := by
        rw [BitVec.xor_allOnes]; simp; omega
      rw [BitVec.toNat_xor, ← e] at h3
      exact h3
    exact key _ hlt

theorem encF_len (f u : Nat) : (encF f u).length ≤ f + 1 := by
  induction f generalizing u with
  | zero => simp [encF]
  | succ f ih => unfold encF; split <;> simp; exact ih _

theorem encF_pos (f u : Nat) : 0 < (encF f u).length := by
  cases f with
  | zero => simp [encF]
  | succ f => unfold encF; split <;> simp

theorem encF_small {f u : Nat} (h : u < 128) : encF f u = [u] := by
  cases f with
  | zero => rfl
  | succ f => simp [encF, h]

theorem encF_big {f u : Nat} (h : 128 ≤ u) : encF (f + 1) u = (u % 128 + 128) :: encF f (u / 128) := by
  have : ¬ u < 128 := by omega
  simp [encF, this]

theorem or128 (u : Nat) : bits .or .u8 (IntKind.u8.wrap (u : Int)) 128 = ((u % 128 + 128 : Nat) : Int) := by
  have e : IntKind.u8.wrap (u : Int) = ((u % 256 : Nat) : Int) := by rw [IntKind.wrap_u8]; omega
  have e8 : (128 : Int) = ((128 : Nat) : Int) := rfl
  rw [e, e8, (bits_nat .u8 8 (by decide) (fun n h1 h2 => wraps_u8 n h1 h2) _ _ (by omega) (by omega)).2]
  congr 1
  by_cases hb : u % 256 < 128
  · rw [Nat.or_comm, nat_join 7 128 (u % 256) (by decide) hb]; omega
  · have e2 : u % 256 = 128 + u % 128 := by omega
    rw [e2, ← nat_join 7 128 (u % 128) (by decide) (by omega), Nat.or_comm, ← Nat.or_assoc, Nat.or_self, nat_join 7 128 (u % 128) (by decide) (by omega)]
    omega

theorem or128' (u : Nat) : bits .or .u8 ((u : Int) % 256) 128 = ((u % 128 + 128 : Nat) : Int) := by
  rw [← or128, IntKind.wrap_u8]

end Go.Proofs.Ytlimaefgifgegaa
