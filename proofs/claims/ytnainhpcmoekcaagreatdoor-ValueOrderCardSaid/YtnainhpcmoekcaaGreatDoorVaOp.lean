/- value: what a law's arguments are: values. -/
import Derived.Test.YtnainhpcmoekcaaGreatDoorVaF
import Derived.Test.YtnainhpcmoekcaaGreatDoorLaw
import Derived.Test.YtnainhpcmoekcaaGreatDoorOpen
import Derived.Lib.SmallJoins
namespace Go.Proofs.YtnainhpcmoekcaaGreatDoor
open Go.ChangeShapes Go.WideShapes Go.ChangeAt Go.RowKit Go.Joins

section
variable {H : Type} {enc : TypeId × Value → H}
set_option maxRecDepth 100000 in
theorem open_value {W : World} {r : Reach} {b0 : Nat} {v : Value} {d : DataW H} {p : List MemPlace} {ts : List TypeId} {ds : List (DataW H)} (hsz : (DataW.weightsEach Tryz.prog ts ds).all (· ≤ reachBytes) = true) (j : Nat)
    (htj : ts[j]? = some 25) (hdj : ds[j]? = some d) (hval : Value.okWide Tryz.prog W r b0 25 v) (h0 : DataW.Trod enc Tryz.prog W 0 (fun _ => true) true 25 v d p) :
    ∃ (k n : Int) (s : Bs), v = vl k n s ∧ s.length ≤ 140737488355328 := by
  obtain ⟨c0, c1, c2, y0, y1, y2, m, rfl, hd, _, h1, h2, h3⟩ := open_agg3 Tryz.underlying25 (by kernel_rfl) (by kernel_rfl) hval h0
  obtain ⟨a0, e0, _, _⟩ := DataW.trod_int Tryz.underlying3 h1
  obtain ⟨a1, e1, _, _⟩ := DataW.trod_int Tryz.underlying3 h2
  obtain ⟨s, e2, e3, _⟩ := DataW.trod_string Tryz.underlying9 h3
  simp only [List.cons.injEq, and_true] at e0 e1 e2
  subst e0 e1 e2
  refine ⟨a0, a1, s.data.toList, by unfold vl; rw [← ofL_of s], ?_⟩
  have hm : s.data.toList.length ∈ d.weights Tryz.prog 25 := by
    rw [hd, DataW.weights, Tryz.underlying25]
    exact DataW.weights_mem_each (j := 2) (t := 9) rfl rfl _ (by rw [e3]; simp [DataW.weights])
  have := List.all_eq_true.1 hsz _ (DataW.weights_mem_each htj hdj _ hm)
  have h5 := reachBytes_lt
  have h6 : s.data.toList.length ≤ reachBytes := by simpa using this
  have h7 : (2 : Nat) ^ 47 = 140737488355328 := by decide
  omega
end
end Go.Proofs.YtnainhpcmoekcaaGreatDoor
