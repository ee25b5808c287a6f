/- OrderFree: for every input the law returns true. -/
import Derived.Test.YtiaidkdpfmbemaaOrdAw
namespace Go.Proofs.Ytiaidkdpfmbemaa
open Go.RowKit

def fct : Nat → Nat
  | 0 => 1
  | k + 1 => fct k * (k + 1)
theorem Pk_none (k i j : Nat) : Pk (Eg []) k i j = false := by
  induction k generalizing i j with
  | zero => rfl
  | succ k ih => rw [Pk, ih, ih]; rfl
theorem psts_none (k : Nat) : psts (k : Int) [] = List.replicate k 0 := by
  unfold psts pst Bf
  rw [List.eq_replicate_iff]
  refine ⟨by simp, fun x hx => ?_⟩
  obtain ⟨j, _, rfl⟩ := List.mem_map.1 hx
  exact (setOf_ext fun i _ => Pk_none _ _ _).trans (setOf_zero _).symm
theorem valO_none {k : Nat} (hk : k ≤ 60) : valO (k : Int) [] = true := valO_ok ⟨by omega, by omega, by simp⟩ (by simp) (fun i _ => Pk_none _ _ _)
theorem cnt_none : ∀ k, k < 7 → cntW (List.replicate k 0) 1000 = (fct k : Nat)
  | 0, _ => by decide +kernel
  | 1, _ => by decide +kernel
  | 2, _ => by decide +kernel
  | 3, _ => by decide +kernel
  | 4, _ => by decide +kernel
  | 5, _ => by decide +kernel
  | 6, _ => by decide +kernel
  | k + 7, h => by omega
theorem ext_none {k : Nat} (hk : k < 7) : extR (k : Int) [] 1000 = (((fct k : Nat) : Int), 0) := by
  unfold extR
  rw [valO_none (by omega), if_pos rfl, if_pos (by omega), psts_none, cnt_none k hk]
theorem fct_le : ∀ k, k < 7 → fct k ≤ 720
  | 0, _ => by decide
  | 1, _ => by decide
  | 2, _ => by decide
  | 3, _ => by decide
  | 4, _ => by decide
  | 5, _ => by decide
  | 6, _ => by decide
  | k + 7, h => by omega
set_option maxHeartbeats 2000000 in
theorem orderfree_walk (n : Nat) (w : World) (hn : n < 256) : Calls Try.prog 10 #[.int .u8 (n : Int)] w (Ok w) := by
  obtain ⟨k, hk⟩ : ∃ k, k = n % 7 := ⟨_, rfl⟩
  have hk7 : k < 7 := by rw [hk]; exact Nat.mod_lt _ (by decide)
  have Hk := Lib.hid (show ((n : Int) % 7) = (k : Int) by omega)
  clear hk
  go_enter Try.func10, Try.ntmps10
  go_wp2_with fail
  refine (awake_any w).mono ?_
  rintro e w1 ⟨rfl, hb1⟩
  have Hb1 := Lib.hid hb1; clear hb1
  go_wp2
  rw [Hk.out]
  clear Hk
  go_loopw [4, 14] (fun v i wr => ∃ j : Nat, j ≤ k ∧ v = .int .i64 (fct j : Nat) ∧ i = .int .i64 j ∧ wr = w1) (fun _ i _ => k - (intOf i).toNat)
  case atStart => exact ⟨0, Nat.zero_le _, rfl, rfl, rfl⟩
  case round =>
    obtain ⟨j, hj, rfl, rfl, rfl⟩ := hrel
    by_cases hlt : j < k
    · have hf := fct_le (j + 1) (by omega)
      have he : ((fct (j + 1) : Nat) : Int) = (fct j : Int) * ((j : Int) + 1) := by rw [fct, Int.natCast_mul]; rfl
      have hm : IntKind.i64.wrap ((fct j : Int) * ((j : Int) + 1)) = ((fct (j + 1) : Nat) : Int) := by rw [← he, IntKind.wrap_i64]; omega
      have He := Lib.hid he
      clear he hf
      go_wp2
      go_roundw
      case rel => exact ⟨j + 1, by omega, (by first | rfl | rw [He.out]), by go_num, (by first | rfl | trivial)⟩
      case measure => simp [intOf]; omega
    · obtain rfl : j = k := by omega
      have Hext := Lib.hid (ext_none hk7)
      go_wp2_with fail
      have C := fun W => extensions_any (j : Int) 1000 (.slice none 0 0) [] W (.inl ⟨rfl, rfl⟩) (by decide)
      refine (C _).mono ?_
      rintro e w2 ⟨he, hb2⟩
      rw [Hext.out] at he
      subst he
      have Hb2 := Lib.hid (bl2 Hb1.out hb2)
      generalize fct j = x at *
      clear hb2
      go_wp2
      go_ret
      exact ⟨rfl, Hb2.out⟩
end Go.Proofs.Ytiaidkdpfmbemaa
