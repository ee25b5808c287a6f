/- string(r) of a byte's number below 128; texts put together. -/
import Derived.Test.YtolanmdckdjfeaaLexScn
namespace Go.Proofs.Ytolanmdckdjfeaa
open Go.RowKit

theorem encode_small (r : Nat) (h : r < 128) : Utf8.encode (r : Int) = ofL [UInt8.ofNat r] := by
  have hv : Utf8.valid (r : Int) = true := by simp [Utf8.valid]; omega
  unfold Utf8.encode
  simp only [hv, if_true, Int.toNat_natCast]
  rw [if_pos (by omega)]
  rfl
theorem rune_str (r : Nat) (h : r < 128) (w : World) : (convert 21 9 (.int .i32 (r : Int))).run Try.prog w = .ok (.string (ofL [UInt8.ofNat r])) w := by
  rw [← encode_small r h]
  simp [convert, run_underlying Try.underlying21, run_underlying Try.underlying9, Conv.intToString, go_sem]
theorem ofL_append (a b : List UInt8) : ofL a ++ ofL b = ofL (a ++ b) := by
  apply ByteArray.ext
  simp [ofL, ByteArray.data_append]
end Go.Proofs.Ytolanmdckdjfeaa
