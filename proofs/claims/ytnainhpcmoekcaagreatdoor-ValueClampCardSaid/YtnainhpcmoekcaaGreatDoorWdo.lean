/- Operations of a drawn region that are off, with the word undef: after an operation that is off, what it guards is off. -/
import Derived.Test.YtnainhpcmoekcaaGreatDoorWd
namespace Go.Proofs.YtnainhpcmoekcaaGreatDoor
open Go.RowKit

section
variable {P : Program} {ops : Array Oper} {Q : Exit → Act → World → Prop} {l : List (Bool × Value)} {i : Nat} {o : Oper} {a : Act} {w : World} {c : Bool}
theorem yl_undef {tmps : Array Value} {j t : Nat} (ho : (ops[j]?).bind (·.dst) = some t) (h : tmps[t]?.getD undef = undef) : yielded ops tmps j = none := by
  unfold yielded
  rw [ho]
  simp only [Option.bind_some]
  cases h2 : tmps[t]? with
  | none => rfl
  | some v => rw [h2] at h; simp only [Option.getD_some] at h; rw [h]; rfl
theorem wd_offd (hl : l[i]? = some (c, undef)) (hw : Region.wanted o (yielded ops a.tmps) = false) : StepOk P ops Q (Wd l) i o a w := step_off hw (wd_mk hl fun _ => rfl)
theorem wd_offu {j t : Nat} {want : Bool} (hl : l[i]? = some (c, undef)) (hg : o.guard = some (j, want)) (ho : (ops[j]?).bind (·.dst) = some t) (h : a.tmps[t]?.getD undef = undef) : StepOk P ops Q (Wd l) i o a w :=
  wd_offd hl (by unfold Region.wanted; rw [hg]; show (yielded ops a.tmps j == some want) = false; rw [yl_undef ho h]; rfl)
end
end Go.Proofs.YtnainhpcmoekcaaGreatDoor
