/-
  No cell of these rows narrows 'for every input' (looked for: loops, veiled, ifaces, maps, wideKeys, modest, calm, conditions, laid).
  DERIVED. THE GIVEN ROWS OF THIS SEAT. 8 by the template 'for every input the law returns true; each argument reads behind the call as it read before'; 0 by the template 'total and deterministic' (their statements: YtcekfgahhicdcaaTotals.lean).
  GIVEN WITH THE SEED: the statements are not yours to turn. If you find one false, say at which input.
  Laid BY PROGRAM, IN A SANDBOX (cutbox-rows.mjs): the forced cells as the released guide's own fill.sh prints them over the translation 2daf9f2dfe3c861c… (all of the seat's roots in one cut). By AI agents, Wed Nov 11 2026. No macro, syntax, notation, axiom, sorry.
-/
import Derived.Test.YtcekfgahhicdcaaChecked
import GoSem.Claim
import GoSem.ClaimJoined
import GoSem.ClaimMapViews
import Derived.JoinedTies
import Derived.KernelRfl
namespace Go.Proofs.Ytcekfgahhicdcaa
/- THE CELL 'sum', in the pinned program and in every row, IS THE sha256 OF THE DUMP (.gsa) THAT YtcekfgahhicdcaaProg.lean LOADS. Nothing in Lean hashes anything: it is a label: what it is worth is what the hold of that sum in a sandbox is worth. -/
noncomputable def Try.pinned : Pinned := { name := "ytcekfgahhicdcaa", sum := "2daf9f2dfe3c861c80408accc77580a8655159c037c30596e5a727dd587ac30d", checked := Try.checked }
namespace Rows
def none {H : Type} : Left H := { results := [], args := [] }

/-- 'farandolelaw08.OrderBefore': WHATEVER THE INPUT: true; the input reads as it did. -/
def orderBeforeSpec : ChangeSpec := { name := "orderBefore", fn := fun _ => fun
  | [d1, d2, d3] => { results := [.lit (.bool true)], args := [d1, d2, d3] }
  | _ => none }
def orderBeforeRow : OpenClaim := { program := "ytcekfgahhicdcaa", sum := "2daf9f2dfe3c861c80408accc77580a8655159c037c30596e5a727dd587ac30d", func := "farandole/farandolelaw08.OrderBefore", spec := "orderBefore", unfollowed := true, recurses := true, apart := false }
def OrderBeforeSaid : Prop := orderBeforeRow.holds Try.pinned (OpenSpec.ofChange orderBeforeSpec)

/-- ITS FALSE NEIGHBOUR: 'it returns false'. Refute it at one input. -/
def orderBeforeWrong : ChangeSpec := { name := "orderBefore", fn := fun _ => fun
  | [d1, d2, d3] => { results := [.lit (.bool false)], args := [d1, d2, d3] }
  | _ => none }
def OrderBeforeWrongFalsely : Prop := orderBeforeRow.holds Try.pinned (OpenSpec.ofChange orderBeforeWrong)

/-- 'farandolelaw08.OrderLinear': WHATEVER THE INPUT: true; the input reads as it did. -/
def orderLinearSpec : ChangeSpec := { name := "orderLinear", fn := fun _ => fun
  | [d1, d2] => { results := [.lit (.bool true)], args := [d1, d2] }
  | _ => none }
def orderLinearRow : OpenClaim := { program := "ytcekfgahhicdcaa", sum := "2daf9f2dfe3c861c80408accc77580a8655159c037c30596e5a727dd587ac30d", func := "farandole/farandolelaw08.OrderLinear", spec := "orderLinear", unfollowed := true, recurses := true, apart := false }
def OrderLinearSaid : Prop := orderLinearRow.holds Try.pinned (OpenSpec.ofChange orderLinearSpec)

/-- ITS FALSE NEIGHBOUR: 'it returns false'. Refute it at one input. -/
def orderLinearWrong : ChangeSpec := { name := "orderLinear", fn := fun _ => fun
  | [d1, d2] => { results := [.lit (.bool false)], args := [d1, d2] }
  | _ => none }
def OrderLinearWrongFalsely : Prop := orderLinearRow.holds Try.pinned (OpenSpec.ofChange orderLinearWrong)

/-- 'farandolelaw08.OrderCounts': WHATEVER THE INPUT: true; the input reads as it did. -/
def orderCountsSpec : ChangeSpec := { name := "orderCounts", fn := fun _ => fun
  | [d1, d2] => { results := [.lit (.bool true)], args := [d1, d2] }
  | _ => none }
def orderCountsRow : OpenClaim := { program := "ytcekfgahhicdcaa", sum := "2daf9f2dfe3c861c80408accc77580a8655159c037c30596e5a727dd587ac30d", func := "farandole/farandolelaw08.OrderCounts", spec := "orderCounts", unfollowed := true, recurses := true, apart := false }
def OrderCountsSaid : Prop := orderCountsRow.holds Try.pinned (OpenSpec.ofChange orderCountsSpec)

/-- ITS FALSE NEIGHBOUR: 'it returns false'. Refute it at one input. -/
def orderCountsWrong : ChangeSpec := { name := "orderCounts", fn := fun _ => fun
  | [d1, d2] => { results := [.lit (.bool false)], args := [d1, d2] }
  | _ => none }
def OrderCountsWrongFalsely : Prop := orderCountsRow.holds Try.pinned (OpenSpec.ofChange orderCountsWrong)

/-- 'farandolelaw08.OrderStrict': WHATEVER THE INPUT: true; the input reads as it did. -/
def orderStrictSpec : ChangeSpec := { name := "orderStrict", fn := fun _ => fun
  | [d] => { results := [.lit (.bool true)], args := [d] }
  | _ => none }
def orderStrictRow : OpenClaim := { program := "ytcekfgahhicdcaa", sum := "2daf9f2dfe3c861c80408accc77580a8655159c037c30596e5a727dd587ac30d", func := "farandole/farandolelaw08.OrderStrict", spec := "orderStrict", unfollowed := true, recurses := true, apart := false }
def OrderStrictSaid : Prop := orderStrictRow.holds Try.pinned (OpenSpec.ofChange orderStrictSpec)

/-- ITS FALSE NEIGHBOUR: 'it returns false'. Refute it at one input. -/
def orderStrictWrong : ChangeSpec := { name := "orderStrict", fn := fun _ => fun
  | [d] => { results := [.lit (.bool false)], args := [d] }
  | _ => none }
def OrderStrictWrongFalsely : Prop := orderStrictRow.holds Try.pinned (OpenSpec.ofChange orderStrictWrong)

/-- 'farandolelaw08.OrderExtends': WHATEVER THE INPUT: true; the input reads as it did. -/
def orderExtendsSpec : ChangeSpec := { name := "orderExtends", fn := fun _ => fun
  | [d1, d2] => { results := [.lit (.bool true)], args := [d1, d2] }
  | _ => none }
def orderExtendsRow : OpenClaim := { program := "ytcekfgahhicdcaa", sum := "2daf9f2dfe3c861c80408accc77580a8655159c037c30596e5a727dd587ac30d", func := "farandole/farandolelaw08.OrderExtends", spec := "orderExtends", unfollowed := true, recurses := true, apart := false }
def OrderExtendsSaid : Prop := orderExtendsRow.holds Try.pinned (OpenSpec.ofChange orderExtendsSpec)

/-- ITS FALSE NEIGHBOUR: 'it returns false'. Refute it at one input. -/
def orderExtendsWrong : ChangeSpec := { name := "orderExtends", fn := fun _ => fun
  | [d1, d2] => { results := [.lit (.bool false)], args := [d1, d2] }
  | _ => none }
def OrderExtendsWrongFalsely : Prop := orderExtendsRow.holds Try.pinned (OpenSpec.ofChange orderExtendsWrong)

/-- 'farandolelaw08.OrderReduces': WHATEVER THE INPUT: true; the input reads as it did. -/
def orderReducesSpec : ChangeSpec := { name := "orderReduces", fn := fun _ => fun
  | [d] => { results := [.lit (.bool true)], args := [d] }
  | _ => none }
def orderReducesRow : OpenClaim := { program := "ytcekfgahhicdcaa", sum := "2daf9f2dfe3c861c80408accc77580a8655159c037c30596e5a727dd587ac30d", func := "farandole/farandolelaw08.OrderReduces", spec := "orderReduces", unfollowed := true, recurses := true, apart := false }
def OrderReducesSaid : Prop := orderReducesRow.holds Try.pinned (OpenSpec.ofChange orderReducesSpec)

/-- ITS FALSE NEIGHBOUR: 'it returns false'. Refute it at one input. -/
def orderReducesWrong : ChangeSpec := { name := "orderReduces", fn := fun _ => fun
  | [d] => { results := [.lit (.bool false)], args := [d] }
  | _ => none }
def OrderReducesWrongFalsely : Prop := orderReducesRow.holds Try.pinned (OpenSpec.ofChange orderReducesWrong)

/-- 'farandolelaw08.OrderFewer': WHATEVER THE INPUT: true; the input reads as it did. -/
def orderFewerSpec : ChangeSpec := { name := "orderFewer", fn := fun _ => fun
  | [d1, d2] => { results := [.lit (.bool true)], args := [d1, d2] }
  | _ => none }
def orderFewerRow : OpenClaim := { program := "ytcekfgahhicdcaa", sum := "2daf9f2dfe3c861c80408accc77580a8655159c037c30596e5a727dd587ac30d", func := "farandole/farandolelaw08.OrderFewer", spec := "orderFewer", unfollowed := true, recurses := true, apart := false }
def OrderFewerSaid : Prop := orderFewerRow.holds Try.pinned (OpenSpec.ofChange orderFewerSpec)

/-- ITS FALSE NEIGHBOUR: 'it returns false'. Refute it at one input. -/
def orderFewerWrong : ChangeSpec := { name := "orderFewer", fn := fun _ => fun
  | [d1, d2] => { results := [.lit (.bool false)], args := [d1, d2] }
  | _ => none }
def OrderFewerWrongFalsely : Prop := orderFewerRow.holds Try.pinned (OpenSpec.ofChange orderFewerWrong)

/-- 'farandolelaw08.OrderFree': WHATEVER THE INPUT: true; the input reads as it did. -/
def orderFreeSpec : ChangeSpec := { name := "orderFree", fn := fun _ => fun
  | [d] => { results := [.lit (.bool true)], args := [d] }
  | _ => none }
def orderFreeRow : OpenClaim := { program := "ytcekfgahhicdcaa", sum := "2daf9f2dfe3c861c80408accc77580a8655159c037c30596e5a727dd587ac30d", func := "farandole/farandolelaw08.OrderFree", spec := "orderFree", unfollowed := true, recurses := true, apart := false }
def OrderFreeSaid : Prop := orderFreeRow.holds Try.pinned (OpenSpec.ofChange orderFreeSpec)

/-- ITS FALSE NEIGHBOUR: 'it returns false'. Refute it at one input. -/
def orderFreeWrong : ChangeSpec := { name := "orderFree", fn := fun _ => fun
  | [d] => { results := [.lit (.bool false)], args := [d] }
  | _ => none }
def OrderFreeWrongFalsely : Prop := orderFreeRow.holds Try.pinned (OpenSpec.ofChange orderFreeWrong)

/- THE SECOND FORM. 'bulk': how many values and letters a reading holds, each counted each time it is reached (what is shared counts as often as it is met; a slice's spare places count too). A statement '..UptoSaid' is the law's where the arguments, and the package variables that the reading takes, are together of bulk at most 1048576: NARROWER than '..Said'. Prove '..Said' where nothing that the law and all that it calls make is longer than what came in: it says more and counts as full. Else prove '..UptoSaid'. A law counts once. -/
mutual
def uptoBulk {H : Type} : DataW H → Nat
  | .lit (.string bytes) => bytes.length + 1
  | .lit _ => 1
  | .nil => 1
  | .ptr d => uptoBulk d + 1
  | .slice elems spare => uptoBulkAll elems + uptoBulkAll spare + 1
  | .agg parts => uptoBulkAll parts + 1
  | .iface _ d => uptoBulk d + 1
  | .map entries => uptoBulkEntries entries + 1
  | .held _ => 1
def uptoBulkAll {H : Type} : List (DataW H) → Nat
  | [] => 0
  | d :: r => uptoBulk d + uptoBulkAll r
def uptoBulkEntries {H : Type} : List (Lit × DataW H) → Nat
  | [] => 0
  | x :: r => uptoBulkEntry x + uptoBulkEntries r
def uptoBulkEntry {H : Type} : Lit × DataW H → Nat
  | (.string bytes, d) => bytes.length + uptoBulk d + 1
  | (_, d) => uptoBulk d + 1
 end
def uptoSmall : (H : Type) → List (DataW H) → Bool := fun _ ds => decide (uptoBulkAll ds ≤ 1048576)
def OpenSpec.upto (s : _root_.Go.ChangeSpec) : _root_.Go.OpenSpec := { _root_.Go.OpenSpec.ofChange s with cond := some uptoSmall }

/-- 'farandolelaw08.OrderBefore', WHERE WHAT IT READS IS OF BULK AT MOST 1048576: true; the input reads as it did. -/
def orderBeforeUptoRow : OpenClaim := { program := "ytcekfgahhicdcaa", sum := "2daf9f2dfe3c861c80408accc77580a8655159c037c30596e5a727dd587ac30d", func := "farandole/farandolelaw08.OrderBefore", spec := "orderBefore", unfollowed := true, recurses := true, apart := false, narrowed := true }
def OrderBeforeUptoSaid : Prop := orderBeforeUptoRow.holds Try.pinned (OpenSpec.upto orderBeforeSpec)

/-- 'farandolelaw08.OrderLinear', WHERE WHAT IT READS IS OF BULK AT MOST 1048576: true; the input reads as it did. -/
def orderLinearUptoRow : OpenClaim := { program := "ytcekfgahhicdcaa", sum := "2daf9f2dfe3c861c80408accc77580a8655159c037c30596e5a727dd587ac30d", func := "farandole/farandolelaw08.OrderLinear", spec := "orderLinear", unfollowed := true, recurses := true, apart := false, narrowed := true }
def OrderLinearUptoSaid : Prop := orderLinearUptoRow.holds Try.pinned (OpenSpec.upto orderLinearSpec)

/-- 'farandolelaw08.OrderCounts', WHERE WHAT IT READS IS OF BULK AT MOST 1048576: true; the input reads as it did. -/
def orderCountsUptoRow : OpenClaim := { program := "ytcekfgahhicdcaa", sum := "2daf9f2dfe3c861c80408accc77580a8655159c037c30596e5a727dd587ac30d", func := "farandole/farandolelaw08.OrderCounts", spec := "orderCounts", unfollowed := true, recurses := true, apart := false, narrowed := true }
def OrderCountsUptoSaid : Prop := orderCountsUptoRow.holds Try.pinned (OpenSpec.upto orderCountsSpec)

/-- 'farandolelaw08.OrderStrict', WHERE WHAT IT READS IS OF BULK AT MOST 1048576: true; the input reads as it did. -/
def orderStrictUptoRow : OpenClaim := { program := "ytcekfgahhicdcaa", sum := "2daf9f2dfe3c861c80408accc77580a8655159c037c30596e5a727dd587ac30d", func := "farandole/farandolelaw08.OrderStrict", spec := "orderStrict", unfollowed := true, recurses := true, apart := false, narrowed := true }
def OrderStrictUptoSaid : Prop := orderStrictUptoRow.holds Try.pinned (OpenSpec.upto orderStrictSpec)

/-- 'farandolelaw08.OrderExtends', WHERE WHAT IT READS IS OF BULK AT MOST 1048576: true; the input reads as it did. -/
def orderExtendsUptoRow : OpenClaim := { program := "ytcekfgahhicdcaa", sum := "2daf9f2dfe3c861c80408accc77580a8655159c037c30596e5a727dd587ac30d", func := "farandole/farandolelaw08.OrderExtends", spec := "orderExtends", unfollowed := true, recurses := true, apart := false, narrowed := true }
def OrderExtendsUptoSaid : Prop := orderExtendsUptoRow.holds Try.pinned (OpenSpec.upto orderExtendsSpec)

/-- 'farandolelaw08.OrderReduces', WHERE WHAT IT READS IS OF BULK AT MOST 1048576: true; the input reads as it did. -/
def orderReducesUptoRow : OpenClaim := { program := "ytcekfgahhicdcaa", sum := "2daf9f2dfe3c861c80408accc77580a8655159c037c30596e5a727dd587ac30d", func := "farandole/farandolelaw08.OrderReduces", spec := "orderReduces", unfollowed := true, recurses := true, apart := false, narrowed := true }
def OrderReducesUptoSaid : Prop := orderReducesUptoRow.holds Try.pinned (OpenSpec.upto orderReducesSpec)

/-- 'farandolelaw08.OrderFewer', WHERE WHAT IT READS IS OF BULK AT MOST 1048576: true; the input reads as it did. -/
def orderFewerUptoRow : OpenClaim := { program := "ytcekfgahhicdcaa", sum := "2daf9f2dfe3c861c80408accc77580a8655159c037c30596e5a727dd587ac30d", func := "farandole/farandolelaw08.OrderFewer", spec := "orderFewer", unfollowed := true, recurses := true, apart := false, narrowed := true }
def OrderFewerUptoSaid : Prop := orderFewerUptoRow.holds Try.pinned (OpenSpec.upto orderFewerSpec)

/-- 'farandolelaw08.OrderFree', WHERE WHAT IT READS IS OF BULK AT MOST 1048576: true; the input reads as it did. -/
def orderFreeUptoRow : OpenClaim := { program := "ytcekfgahhicdcaa", sum := "2daf9f2dfe3c861c80408accc77580a8655159c037c30596e5a727dd587ac30d", func := "farandole/farandolelaw08.OrderFree", spec := "orderFree", unfollowed := true, recurses := true, apart := false, narrowed := true }
def OrderFreeUptoSaid : Prop := orderFreeUptoRow.holds Try.pinned (OpenSpec.upto orderFreeSpec)

end Rows
end Go.Proofs.Ytcekfgahhicdcaa
