/- The contracts of order's small functions: only, all, has, within, exists, ready. -/
import Derived.Test.YtcekfgahhicdcaaOrdE
import Derived.Test.YtcekfgahhicdcaaSl
import Derived.Laws.BitsAllLaws
import Derived.Deep.QuietTactic
import Derived.BigQuiet
namespace Go.Proofs.Ytcekfgahhicdcaa
open Go.RowKit

theorem ret_b {a b : Bool} (h : a = b) : Ending.returned (.bool a) = .returned (.bool b) := by rw [h]
theorem ret_u {a b : Int} (h : a = b) : Ending.returned (.int .u64 a) = .returned (.int .u64 b) := by rw [h]
theorem u64_id {n : Nat} (h : n < 2 ^ 64) : IntKind.u64.wrap (n : Int) = n := by
  simp only [IntKind.wrap, IntKind.bits, IntKind.signed, Bool.false_and, Bool.false_eq_true, if_false]
  omega
theorem pow_u64 {a : Nat} (h : a < 64) : 2 ^ a < 2 ^ 64 := Nat.pow_lt_pow_right (by decide) h
theorem pow_cast (a : Nat) : (2 : Int) ^ a = ((2 ^ a : Nat) : Int) := by rw [Int.natCast_pow]; rfl
theorem and_pow (s a : Nat) : (((s &&& 2 ^ a : Nat) : Int) != 0) = s.testBit a := by
  rw [nat_bit, Nat.testBit_eq_decide_div_mod_eq, Bool.eq_iff_iff, bne_iff_ne, decide_eq_true_iff]
  have h1 : s / 2 ^ a % 2 < 2 := Nat.mod_lt _ (by decide)
  have h2 : 0 < 2 ^ a := Nat.two_pow_pos a
  generalize s / 2 ^ a % 2 = z at *
  rcases (by omega : z = 0 ∨ z = 1) with rfl | rfl
  · simp
  · simp only [Nat.one_mul, iff_true]; omega
theorem andn_eq (x y : Nat) (hx : x < 2 ^ 64) (hy : y < 2 ^ 64) : x &&& (18446744073709551615 - y) = sdiff x y := by
  refine Nat.eq_of_testBit_eq fun i => ?_
  rw [sdiff_bit, Nat.testBit_and]
  have e : 18446744073709551615 - y = 2 ^ 64 - (y + 1) := by omega
  rw [e, Nat.testBit_two_pow_sub_succ hy]
  by_cases h : i < 64
  · simp [h]
  · rw [Nat.testBit_lt_two_pow (Nat.lt_of_lt_of_le hx (Nat.pow_le_pow_right (by decide) (by omega)))]; simp
theorem only_any (a : Nat) (w : World) (h : a < 64) : Calls Try.prog 39 #[.int .i64 (a : Int)] w fun e w' => e = .returned (.int .u64 ((2 ^ a : Nat) : Int)) ∧ w = w' := by
  go_enter Try.func39, Try.ntmps39
  go_wp2
  go_ret
  refine ⟨ret_u ?_, rfl⟩
  rw [pow_cast, u64_id (pow_u64 h)]
theorem all_any (a : Nat) (w : World) (h : a ≤ 60) : Calls Try.prog 43 #[.int .i64 (a : Int)] w fun e w' => e = .returned (.int .u64 ((2 ^ a - 1 : Nat) : Int)) ∧ w = w' := by
  go_enter Try.func43, Try.ntmps43
  go_wp2_with fail
  refine (only_any a _ (by omega)).mono ?_
  rintro e w1 ⟨rfl, rfl⟩
  go_wp2
  go_ret
  refine ⟨ret_u ?_, rfl⟩
  have h1 : 2 ^ a < 2 ^ 64 := pow_u64 (by omega)
  have h2 : 0 < 2 ^ a := Nat.two_pow_pos a
  rw [pow_cast, show (((2 ^ a : Nat) : Int) - 1) = ((2 ^ a - 1 : Nat) : Int) by omega, u64_id (by omega)]
theorem has_any (s a : Nat) (w : World) (hs : s < 2 ^ 64) (h : a < 64) : Calls Try.prog 36 #[.int .u64 (s : Int), .int .i64 (a : Int)] w fun e w' => e = .returned (.bool (s.testBit a)) ∧ w = w' := by
  go_enter Try.func36, Try.ntmps36
  go_wp2_with fail
  refine (only_any a _ (by omega)).mono ?_
  rintro e w1 ⟨rfl, rfl⟩
  go_wp2
  go_ret
  refine ⟨ret_b ?_, rfl⟩
  rw [pow_cast, u64_and_nat _ _ hs (pow_u64 h), and_pow]
theorem within_any (s t : Nat) (w : World) (hs : s < 2 ^ 64) (ht : t < 2 ^ 64) : Calls Try.prog 41 #[.int .u64 (s : Int), .int .u64 (t : Int)] w fun e w' => e = .returned (.bool (decide (sdiff s t = 0))) ∧ w = w' := by
  go_enter Try.func41, Try.ntmps41
  go_wp2
  go_ret
  refine ⟨ret_b ?_, rfl⟩
  rw [u64_andNot_nat _ _ hs ht, andn_eq _ _ hs ht, Bool.eq_iff_iff, beq_iff_eq, decide_eq_true_iff]
  omega
theorem exists_any (N x : Int) (v : Value) (w : World) : Calls Try.prog 35 #[.agg #[.int .i64 N, v], .int .i64 x] w fun e w' => e = .returned (.bool (inB N x)) ∧ Below w.heap.size w w' := by
  by_cases h0 : 0 ≤ x
  · go_enter Try.func35, Try.ntmps35
    go_wp2
    go_ret
    exact ⟨ret_b (by unfold inB; rw [decide_eq_true h0, Bool.true_and]), (Below.refl _ w).alloc (Nat.le_refl _) _⟩
  · go_enter Try.func35, Try.ntmps35
    go_wp2
    go_ret
    exact ⟨ret_b (by unfold inB; rw [decide_eq_false (by omega), Bool.false_and]), (Below.refl _ w).alloc (Nat.le_refl _) _⟩
theorem ready_any (v : Value) (ps : List Nat) (s e : Nat) (w : World) (h : Sl uv w v ps) (hp : ∀ x ∈ ps, x < 2 ^ 64) (hl : ps.length ≤ 60) (hs : s < 2 ^ 64) (he : e < ps.length) : Calls Try.prog 38 #[v, .int .u64 (s : Int), .int .i64 (e : Int)] w fun r w' => r = .returned (.bool (rdyW ps s e)) ∧ w = w' := by
  obtain ⟨ad, c, rfl, hc, hcell⟩ := sl_cell h e he
  have e1 : ps.getD e 0 = ps[e] := by rw [List.getD_eq_getElem?_getD, List.getElem?_eq_getElem he]; rfl
  have hx := hp _ (List.getElem_mem he)
  have hR : rdyW ps s e = (!s.testBit e && decide (sdiff ps[e] s = 0)) := by unfold rdyW; rw [e1]
  rw [hR]
  clear h hp e1 hR
  unfold uv at hcell
  generalize ps[e] = x at *
  have Hx := Lib.hid hx; have Hs := Lib.hid hs
  clear hx hs
  cases hb : s.testBit e with
  | true =>
    have Hb := Lib.hid hb; clear hb
    go_enter Try.func38, Try.ntmps38
    go_wp2_with fail
    refine (has_any s e _ Hs.out (by omega)).mono ?_
    rintro r w1 ⟨rfl, rfl⟩
    rw [Hb.out]
    go_wp2
    go_ret
    exact ⟨rfl, rfl⟩
  | false =>
    have Hb := Lib.hid hb; clear hb
    go_enter Try.func38, Try.ntmps38
    go_wp2_with fail
    refine (has_any s e _ Hs.out (by omega)).mono ?_
    rintro r w1 ⟨rfl, rfl⟩
    rw [Hb.out]
    go_wp2_with fail
    refine (within_any x s _ Hx.out Hs.out).mono ?_
    rintro r w1 ⟨rfl, rfl⟩
    go_wp2
    go_ret
    exact ⟨rfl, rfl⟩
end Go.Proofs.Ytcekfgahhicdcaa
