/- OnesCount64's arithmetic: x's three steps by bytes, and the sum of the bytes. Of no program. -/
import Derived.Test.YtockgbilbnheaaaDoorRows
namespace Go.Proofs.YtockgbilbnheaaaDoor

/-- The mask k, k, .. over n bytes. -/
def msk (k : Nat) : Nat → Nat
 | 0 => 0
 | n + 1 => 256 * msk k n + k
theorem msk_lt (k : Nat) (hk : k < 256) : ∀ n, msk k n < 256 ^ n
 | 0 => by simp [msk]
 | n + 1 => by have := msk_lt k hk n; rw [msk, Nat.pow_succ]; omega
theorem and_byte (a b k m : Nat) (hb : b < 256) (hk : k < 256) : (256 * a + b) &&& (256 * m + k) = 256 * (a &&& m) + (b &&& k) := by
 have hbk : b &&& k < 2 ^ 8 := Nat.and_lt_two_pow _ (by omega)
 have e : (256 : Nat) = 2 ^ 8 := rfl
 apply Nat.eq_of_testBit_eq
 intro i
 rw [e, Nat.testBit_and, Nat.testBit_two_pow_mul_add _ (by omega), Nat.testBit_two_pow_mul_add _ (by omega), Nat.testBit_two_pow_mul_add _ hbk]
 split <;> rw [Nat.testBit_and]
/-- A shift by s below 8 under a mask whose top s bits are 0. -/
theorem shr_byte (s a b k m : Nat) (hb : b < 256) (hs : s ≤ 8) (hk : k < 2 ^ (8 - s)) : ((256 * a + b) / 2 ^ s) &&& (256 * m + k) = 256 * ((a / 2 ^ s) &&& m) + ((b / 2 ^ s) &&& k) := by
 have hk8 : k < 2 ^ 8 := Nat.lt_of_lt_of_le hk (Nat.pow_le_pow_right (by decide) (by omega))
 have hbk : (b / 2 ^ s) &&& k < 2 ^ 8 := Nat.and_lt_two_pow _ hk8
 have e : (256 : Nat) = 2 ^ 8 := rfl
 apply Nat.eq_of_testBit_eq
 intro i
 rw [Nat.testBit_and, Nat.testBit_div_two_pow, e, Nat.testBit_two_pow_mul_add _ (by omega), Nat.testBit_two_pow_mul_add _ hk8, Nat.testBit_two_pow_mul_add _ hbk]
 by_cases hi : i < 8
 ·rw [if_pos hi, if_pos hi, Nat.testBit_and, Nat.testBit_div_two_pow]
  by_cases h2 : i + s < 8
  ·rw [if_pos h2]
  ·rw [if_neg h2, Nat.testBit_lt_two_pow (x := k) (i := i) (Nat.lt_of_lt_of_le hk (Nat.pow_le_pow_right (by decide) (by omega)))]
   simp
 ·rw [if_neg hi, if_neg hi, if_neg (by omega), Nat.testBit_and, Nat.testBit_div_two_pow]
  congr 2
  omega

def st1 (n x : Nat) : Nat := (x / 2 &&& msk 85 n) + (x &&& msk 85 n)
def st2 (n x : Nat) : Nat := (x / 4 &&& msk 51 n) + (x &&& msk 51 n)
def st3 (n x : Nat) : Nat := (x / 16 + x) &&& msk 15 n
def pop3 (b : Nat) : Nat := st3 1 (st2 1 (st1 1 b))
def bitsN (n x : Nat) : Nat := ((List.range n).filter x.testBit).length

theorem st1_byte : ∀ b : Fin 256, st1 1 b.1 < 256 := by decide +kernel
theorem st2_byte : ∀ b : Fin 256, st2 1 b.1 % 16 ≤ 6 := by decide +kernel
theorem st12_byte : ∀ b : Fin 256, st2 1 (st1 1 b.1) < 69 := by decide +kernel
theorem st3_byte : ∀ b : Fin 256, pop3 b.1 = bitsN 8 b.1 := by decide +kernel
theorem bits8_le : ∀ b : Fin 256, bitsN 8 b.1 ≤ 8 := by decide +kernel
theorem st1_step (n a b : Nat) (hb : b < 256) : st1 (n + 1) (256 * a + b) = 256 * st1 n a + st1 1 b := by
 unfold st1
 have h1 := shr_byte 1 a b 85 (msk 85 n) hb (by decide) (by decide)
 have h2 := and_byte a b 85 (msk 85 n) hb (by decide)
 have e : msk 85 1 = 85 := rfl
 rw [e, show msk 85 (n + 1) = 256 * msk 85 n + 85 from rfl]
 simp only [Nat.pow_one] at h1
 rw [h1, h2]
 omega
theorem st2_step (n a b : Nat) (hb : b < 256) : st2 (n + 1) (256 * a + b) = 256 * st2 n a + st2 1 b := by
 unfold st2
 have h1 := shr_byte 2 a b 51 (msk 51 n) hb (by decide) (by decide)
 have h2 := and_byte a b 51 (msk 51 n) hb (by decide)
 have e : msk 51 1 = 51 := rfl
 rw [e, show msk 51 (n + 1) = 256 * msk 51 n + 51 from rfl]
 simp only [show (2 : Nat) ^ 2 = 4 from rfl] at h1
 rw [h1, h2]
 omega
theorem st2_nib (n y : Nat) : st2 n y % 16 ≤ 6 := by
 cases n with
 | zero => simp [st2, msk]
 | succ n =>
  have e : y = 256 * (y / 256) + y % 256 := by omega
  have hb : y % 256 < 256 := Nat.mod_lt _ (by decide)
  rw [e, st2_step n _ _ hb]
  have := st2_byte ⟨y % 256, hb⟩
  simp only at this
  omega
/-- The nibbles are small, so nothing is carried. -/
theorem st3_step (n a b : Nat) (ha : a % 16 ≤ 6) (hb : b < 69) : st3 (n + 1) (256 * a + b) = 256 * st3 n a + st3 1 b := by
 unfold st3
 have e : msk 15 1 = 15 := rfl
 have h1 : (256 * a + b) / 16 + (256 * a + b) = 256 * (a / 16 + a) + (16 * (a % 16) + b / 16 + b) := by omega
 have hlow : (16 * (a % 16) + b / 16 + b) % 16 = (b / 16 + b) % 16 := by omega
 have h15 : ∀ x : Nat, x &&& 15 = x % 16 := fun x => Nat.and_two_pow_sub_one_eq_mod x 4
 rw [e, show msk 15 (n + 1) = 256 * msk 15 n + 15 from rfl, h1, and_byte _ _ _ _ (by omega) (by decide), h15, h15, hlow]
/-- The three steps over n bytes. -/
def popB (n x : Nat) : Nat := st3 n (st2 n (st1 n x))
theorem popB_step (n a b : Nat) (hb : b < 256) : popB (n + 1) (256 * a + b) = 256 * popB n a + bitsN 8 b := by
 have h1 := st1_byte ⟨b, hb⟩
 have h12 := st12_byte ⟨b, hb⟩
 have h3 := st3_byte ⟨b, hb⟩
 simp only at h1 h12 h3
 unfold popB
 rw [st1_step n a b hb, st2_step n _ _ h1, st3_step n _ _ (st2_nib _ _) h12, ← h3]
 rfl
theorem bitsN_step (n a b : Nat) (hb : b < 256) : bitsN (8 + n) (256 * a + b) = bitsN 8 b + bitsN n a := by
 unfold bitsN
 rw [List.range_add, List.filter_append, List.length_append]
 congr 1
 ·congr 1
  apply List.filter_congr
  intro i hi
  rw [List.mem_range] at hi
  rw [show 256 * a + b = 2 ^ 8 * a + b by rfl, Nat.testBit_two_pow_mul_add _ (by omega), if_pos hi]
 ·rw [List.filter_map, List.length_map]
  congr 1
  apply List.filter_congr
  intro i hi
  simp only [Function.comp]
  rw [show 256 * a + b = 2 ^ 8 * a + b by rfl, Nat.testBit_two_pow_mul_add _ (by omega), if_neg (by omega)]
  congr 1
  omega
theorem bitsN_zero (x : Nat) : bitsN 0 x = 0 := rfl
/-- The number of bits that are 1, of the 64. -/
def pc (x : Nat) : Nat := bitsN 64 x
theorem fold_sum (p0 p1 p2 p3 p4 p5 p6 p7 Y : Nat) (h0 : p0 ≤ 8) (h1 : p1 ≤ 8) (h2 : p2 ≤ 8) (h3 : p3 ≤ 8) (h4 : p4 ≤ 8) (h5 : p5 ≤ 8) (h6 : p6 ≤ 8) (h7 : p7 ≤ 8)
  (hY : Y = p0 + 256 * (p1 + 256 * (p2 + 256 * (p3 + 256 * (p4 + 256 * (p5 + 256 * (p6 + 256 * p7))))))) :
  ∃ Y1 Y2, Y1 = Y + Y / 256 ∧ Y1 < 18446744073709551616 ∧ Y2 = Y1 + Y1 / 65536 ∧ Y2 < 18446744073709551616 ∧ Y2 + Y2 / 4294967296 < 9223372036854775808 ∧ (Y2 + Y2 / 4294967296) % 128 = p0 + p1 + p2 + p3 + p4 + p5 + p6 + p7 := by
 have e1 : Y / 256 = p1 + 256 * (p2 + 256 * (p3 + 256 * (p4 + 256 * (p5 + 256 * (p6 + 256 * p7))))) := by omega
 have e2 : Y + Y / 256 = (p0 + p1) + 256 * ((p1 + p2) + 256 * ((p2 + p3) + 256 * ((p3 + p4) + 256 * ((p4 + p5) + 256 * ((p5 + p6) + 256 * ((p6 + p7) + 256 * p7)))))) := by omega
 generalize hY1 : Y + Y / 256 = Y1 at e2 ⊢
 clear hY e1 hY1
 have b1 : Y1 < 18446744073709551616 := by omega
 have e3 : Y1 / 65536 = (p2 + p3) + 256 * ((p3 + p4) + 256 * ((p4 + p5) + 256 * ((p5 + p6) + 256 * ((p6 + p7) + 256 * p7)))) := by omega
 have e4 : Y1 + Y1 / 65536 = (p0 + p1 + p2 + p3) + 256 * ((p1 + p2 + p3 + p4) + 256 * ((p2 + p3 + p4 + p5) + 256 * ((p3 + p4 + p5 + p6) + 256 * ((p4 + p5 + p6 + p7) + 256 * ((p5 + p6 + p7) + 256 * ((p6 + p7) + 256 * p7)))))) := by omega
 refine ⟨Y1, Y1 + Y1 / 65536, rfl, b1, rfl, ?_⟩
 generalize Y1 + Y1 / 65536 = Y2 at e4 ⊢
 clear e2 e3 b1
 have b2 : Y2 < 4611686018427387904 := by omega
 have e5 : Y2 / 4294967296 = (p4 + p5 + p6 + p7) + 256 * ((p5 + p6 + p7) + 256 * ((p6 + p7) + 256 * p7)) := by omega
 have b3 : Y2 / 4294967296 < 4294967296 := by omega
 refine ⟨by omega, by omega, ?_⟩
 rw [e5, e4]
 clear e5 e4 b2 b3
 omega
/-- What OnesCount64 reckons. -/
theorem pop_sum (x : Nat) :
  ∃ Y1 Y2, Y1 = popB 8 x + popB 8 x / 256 ∧ Y1 < 18446744073709551616 ∧ Y2 = Y1 + Y1 / 65536 ∧ Y2 < 18446744073709551616 ∧ Y2 + Y2 / 4294967296 < 9223372036854775808 ∧ (Y2 + Y2 / 4294967296) % 128 = pc x := by
 have st : ∀ n a, popB (n + 1) a = 256 * popB n (a / 256) + bitsN 8 (a % 256) := fun n a => by
  have := popB_step n (a / 256) (a % 256) (Nat.mod_lt _ (by decide))
  rwa [show 256 * (a / 256) + a % 256 = a by omega] at this
 have sb : ∀ n a, bitsN (8 + n) a = bitsN 8 (a % 256) + bitsN n (a / 256) := fun n a => by
  have := bitsN_step n (a / 256) (a % 256) (Nat.mod_lt _ (by decide))
  rwa [show 256 * (a / 256) + a % 256 = a by omega] at this
 have le : ∀ a, bitsN 8 (a % 256) ≤ 8 := fun a => bits8_le ⟨a % 256, Nat.mod_lt _ (by decide)⟩
 have z : ∀ a, popB 0 a = 0 := fun a => by simp [popB, st3, st2, st1, msk]
 have h := fold_sum (bitsN 8 (x % 256)) (bitsN 8 (x / 256 % 256)) (bitsN 8 (x / 256 / 256 % 256)) (bitsN 8 (x / 256 / 256 / 256 % 256)) (bitsN 8 (x / 256 / 256 / 256 / 256 % 256)) (bitsN 8 (x / 256 / 256 / 256 / 256 / 256 % 256)) (bitsN 8 (x / 256 / 256 / 256 / 256 / 256 / 256 % 256)) (bitsN 8 (x / 256 / 256 / 256 / 256 / 256 / 256 / 256 % 256)) (popB 8 x)
  (le _) (le _) (le _) (le _) (le _) (le _) (le _) (le _) (by
   rw [show popB 8 x = _ from st 7 x, st 6, st 5, st 4, st 3, st 2, st 1, st 0, z]
   omega)
 have e : pc x = bitsN 8 (x % 256) + (bitsN 8 (x / 256 % 256) + (bitsN 8 (x / 256 / 256 % 256) + (bitsN 8 (x / 256 / 256 / 256 % 256) + (bitsN 8 (x / 256 / 256 / 256 / 256 % 256) + (bitsN 8 (x / 256 / 256 / 256 / 256 / 256 % 256) + (bitsN 8 (x / 256 / 256 / 256 / 256 / 256 / 256 % 256) + (bitsN 8 (x / 256 / 256 / 256 / 256 / 256 / 256 / 256 % 256) + 0))))))) := by
  unfold pc
  rw [show (64 : Nat) = 8 + (8 + (8 + (8 + (8 + (8 + (8 + (8 + 0))))))) from rfl, sb, sb, sb, sb, sb, sb, sb, sb, bitsN_zero]
 rw [e]
 obtain ⟨Y1, Y2, a1, a2, a3, a4, a5, a6⟩ := h
 exact ⟨Y1, Y2, a1, a2, a3, a4, a5, by rw [a6]; omega⟩
end Go.Proofs.YtockgbilbnheaaaDoor
