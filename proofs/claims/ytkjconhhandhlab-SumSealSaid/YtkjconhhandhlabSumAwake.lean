/- The contract of the law package's awake: the document's examples of digits. -/
import Derived.Test.YtkjconhhandhlabSumDig
import Derived.Test.YtkjconhhandhlabLaw
import Derived.Lib.SlBytesConst
namespace Go.Proofs.Ytkjconhhandhlab
open Go.RowKit

theorem digits_is (h : Nat) (s : ByteArray) (w : World) (hs : U64 h) (e : strOf (digs 16 h) = s) :
    Calls Try.prog 21 #[.int .u64 (h : Int)] w (fun e w' => e = .returned (.string s) ∧ Below w.heap.size w w') := by
  have := digits_any h w hs
  rwa [e] at this
theorem dig_nil : strOf (digs 16 (fnv fbase [])) = ⟨#[99, 98, 102, 50, 57, 99, 101, 52, 56, 52, 50, 50, 50, 51, 50, 53]⟩ := by decide +kernel
theorem dig_a : strOf (digs 16 (fnv fbase [97])) = ⟨#[97, 102, 54, 51, 100, 99, 52, 99, 56, 54, 48, 49, 101, 99, 56, 99]⟩ := by decide +kernel

set_option maxHeartbeats 400000 in
theorem awake_any (w : World) : Calls Try.prog 10 #[] w (Ok w) := by
  have kc := fun (w : World) (C : Array Value) (n c : Nat) => Lib.run_convert_bytes_const (P := Try.prog) w 23 5 C n c Try.underlying23 Try.underlying5
  go_enter Try.func10, Try.ntmps10
  go_wp2_with fail
  refine (of_any _ [] _ (.inl ⟨rfl, rfl⟩) (by unfold Byt; simp) (by unfold Room2; simp)).mono ?_
  rintro e w1 ⟨q, rfl, hq, hu, rfl⟩
  have Hq := Lib.hid hq; clear hq
  have Hu := Lib.hid hu; clear hu
  go_wp2_with fail
  refine (digits_is q _ _ Hu.out ((congrArg (fun x => strOf (digs 16 x)) Hq.out).trans dig_nil)).mono ?_
  rintro e w1 ⟨rfl, hb1⟩
  go_wp2_with fail
  refine (of_any _ [97] _ (Bsl.lit w1 _ _ _ rfl rfl) (by unfold Byt; decide) (by unfold Room2; decide)).mono ?_
  rintro e w2 ⟨q2, rfl, hq, hu, rfl⟩
  have Hq2 := Lib.hid hq; clear hq
  have Hu2 := Lib.hid hu; clear hu
  go_wp2_with fail
  refine (digits_is q2 _ _ Hu2.out ((congrArg (fun x => strOf (digs 16 x)) Hq2.out).trans dig_a)).mono ?_
  rintro e w2 ⟨rfl, hb2⟩
  go_wp2
  go_ret
  exact ⟨rfl, (hb1.alloc hb1.size _).trans (hb2.mono (by have := hb1.size; simp; omega))⟩
end Go.Proofs.Ytkjconhhandhlab
