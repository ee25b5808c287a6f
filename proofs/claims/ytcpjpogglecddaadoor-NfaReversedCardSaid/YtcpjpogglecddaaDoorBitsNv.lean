/- Numbers as values. -/
import Derived.Test.YtcpjpogglecddaaDoorBitsLen
import Derived.Deep.QuietTactic
import Derived.BigQuiet
namespace Go.Proofs.YtcpjpogglecddaaDoor
open Go.RowKit

def nv (n : Nat) : Value := .int .i64 (n : Int)
theorem Sl.nv_iv {w : World} {v : Value} {xs : List Nat} (h : Sl nv w v xs) : Sl iv w v (xs.map fun n : Nat => (n : Int)) := by
  rcases h with ⟨rfl, rfl⟩ | ⟨ad, c, rfl, hc, hcell⟩
  · exact .inl ⟨rfl, rfl⟩
  · refine .inr ⟨ad, c, by rw [List.length_map], by rw [List.length_map]; exact hc, fun j b hj => ?_⟩
    rw [List.getElem?_map] at hj
    cases hx : xs[j]? with
    | none => rw [hx] at hj; cases hj
    | some n => rw [hx] at hj; cases hj; exact hcell j n hx
end Go.Proofs.YtcpjpogglecddaaDoor
