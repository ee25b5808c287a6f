/- value: strings.Repeat of a letter, the reference's letters. -/
import Derived.Test.YtnainhpcmoekcaaGreatDoorLayRep
import Derived.Test.YtnainhpcmoekcaaGreatDoorVaI
namespace Go.Proofs.YtnainhpcmoekcaaGreatDoor
open Go.RowKit

def letA (n : Nat) : Bs := List.replicate n 97
theorem letA_len (n : Nat) : (letA n).length = n := by unfold letA; simp
theorem repeat_any (n : Nat) (w : World) (hn : n ≤ 1000) : Calls Tryz.prog 51 #[.string ⟨#[97]⟩, .int .i64 (n : Int)] w (Tells w (.string (ofL (letA n)))) := by
  refine (Tryz.strings_Repeat ⟨#[97]⟩ n w (by omega) (by show 1 * n ≤ _; omega)).mono fun e w' h => ⟨?_, h.2⟩
  rw [h.1]
  have e : Lib.repeatL (ByteArray.mk #[97]).data.toList n = letA n := by
    have := Lib.repeatL_replicate 97 1 n
    rw [Nat.mul_one] at this
    exact this
  rw [e]; rfl
theorem letA_next (k : Nat) : ofL (letA k) ++ (⟨#[97]⟩ : ByteArray) = ofL (letA (k + 1)) := by
  have e : letA (k + 1) = letA k ++ [97] := by unfold letA; rw [List.replicate_succ']
  rw [e]
  apply ByteArray.ext
  simp [ofL]
set_option maxRecDepth 100000 in
theorem letters_any (n : Int) (w : World) (hn : n ≤ 1000) : Calls Tryz.prog 52 #[.int .i64 n] w (Tells w (.string (ofL (letA n.toNat)))) := by
  have HB0 := Lib.hid (Below.refl w.heap.size w)
  go_enter Tryz.func52, Tryz.ntmps52
  go_wp2
  go_loopw [3, 4] (fun vs vi wr => ∃ k : Nat, k ≤ n.toNat ∧ vs = .string (ofL (letA k)) ∧ vi = .int .i64 (k : Int) ∧ Hid (Below w.heap.size w wr)) (fun _ vi _ => n.toNat - (intOf vi).toNat)
  case atStart => exact ⟨0, Nat.zero_le _, rfl, rfl, HB0⟩
  case round =>
    clear HB0
    obtain ⟨k, hk, rfl, rfl, HB⟩ := hrel
    have hkb : k ≤ 1000 := by omega
    by_cases hlt : (k : Int) < n
    · have HN := Lib.hid (letA_next k)
      have hz : (ofL (letA k)).size = k := by rw [ofL_size, letA_len]
      go_wp2
      go_roundw
      case rel => exact ⟨k + 1, by omega, by rw [HN.out], by go_num, HB⟩
      case measure => simp [intOf]; omega
    · have HK := Lib.hid (show k = n.toNat by omega)
      go_wp2
      go_ret
      exact ⟨by rw [HK.out]; rfl, HB.out⟩
end Go.Proofs.YtnainhpcmoekcaaGreatDoor
