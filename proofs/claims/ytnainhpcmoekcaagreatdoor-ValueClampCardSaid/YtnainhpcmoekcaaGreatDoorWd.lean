/- The words of a drawn region as a list of values: each with a Bool that switches it off. -/
import Derived.Test.YtnainhpcmoekcaaGreatDoorRegion
namespace Go.Proofs.YtnainhpcmoekcaaGreatDoor
open Go.RowKit

def Wd (l : List (Bool × Value)) (q : Nat) (v : Value) (_ : World) : Prop := match l[q]? with | some (c, x) => c = false → v = x | none => True
section
variable {P : Program} {ops : Array Oper} {Q : Exit → Act → World → Prop} {l : List (Bool × Value)} {i : Nat} {o : Oper} {a : Act} {w : World} {c : Bool} {x v : Value}
theorem wd_get {t q : Nat} (h : Wd l q (slotOf a (some t)) w) (hl : l[q]? = some (c, x)) (hc : c = false) : a.tmps[t]?.getD undef = x := by
  unfold Wd at h
  rw [hl] at h
  exact slot_eq.symm.trans (h hc)
theorem wd_mk (hl : l[i]? = some (c, x)) (hv : c = false → v = x) : Wd l i v w := by
  unfold Wd
  rw [hl]
  exact hv
theorem wd_run (hl : l[i]? = some (c, x)) (hw : Region.wanted o (yielded ops a.tmps) = true) (hr : (execOp a.eval o).run P w = .ok (.value x) w) : StepOk P ops Q (Wd l) i o a w := step_run hw hr (wd_mk hl fun _ => rfl)
theorem wd_run2 (hl : l[i]? = some (c, x)) (hw : Region.wanted o (yielded ops a.tmps) = true) (hr : (execOp a.eval o).run P w = .ok (.value v) w) (hv : v = x) : StepOk P ops Q (Wd l) i o a w := step_run hw hr (wd_mk hl fun _ => hv)
theorem wd_off (hl : l[i]? = some (c, x)) (hc : c = true) (hw : Region.wanted o (yielded ops a.tmps) = false) : StepOk P ops Q (Wd l) i o a w := step_off hw (wd_mk hl fun h => by rw [hc] at h; cases h)
end
end Go.Proofs.YtnainhpcmoekcaaGreatDoor
