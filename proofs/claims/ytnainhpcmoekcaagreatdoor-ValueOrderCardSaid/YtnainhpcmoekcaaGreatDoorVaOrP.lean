/- ValueOrder holds: for every input the law returns true, and its arguments read as before. The card: the tables of Go's library are as the program's text lays them. No other condition. -/
import Derived.Test.YtnainhpcmoekcaaGreatDoorVaOr
import Derived.Test.YtnainhpcmoekcaaGreatDoorLaw
import Derived.Test.YtnainhpcmoekcaaGreatDoorVaOp
import Derived.Test.YtnainhpcmoekcaaGreatDoorOpen
import Derived.Test.YtnainhpcmoekcaaGreatDoorCards
import Derived.Test.YtnainhpcmoekcaaGreatDoorTie
import Derived.LaidMore
import Derived.Lay
import Derived.Stop.Joined
import Derived.SevenTiedAt
import Derived.ProofKit
import Derived.OpenShut
import Derived.Lib.SmallJoins
namespace Go.Proofs.YtnainhpcmoekcaaGreatDoor
open Go.ChangeShapes Go.WideShapes Go.ChangeAt Go.RowKit Go.Joins

set_option maxRecDepth 100000 in
theorem valueorder_lifted (os : Os) (started : os.Started) (H : Type) (enc : TypeId × Value → H) :
    ReturnsInHanded {} Tryz.checked os 4 .any (fun w args => (Rows.valueOrderSpec.pre enc Tryz.prog Tryz.f4 [] false w args ∧ laidMetH Tryz.prog Rows.valueOrderRow.laid w) ∧ sizedMet enc Tryz.prog Tryz.f4 (OpenSpec.ofChange Rows.valueOrderSpec) false w args) (Rows.valueOrderSpec.post enc Tryz.prog Tryz.f4 false true false false) := by
  refine returnsInHanded_of_change_and (C := Tryz.checked) (X := fun w _ => laidMetH Tryz.prog Rows.valueOrderRow.laid w) (fun _ _ _ hh h => h.of_heap hh) Tryz.own started (by kernel_rfl) Tryz.func4
    (ChangeSpec.witness_shaped (enc := enc) (C := Tryz.checked) (os := os) (X := fun w _ => laidMetH Tryz.prog Rows.valueOrderRow.laid w) false (World.laidAll Tryz.prog os Rows.valueOrderRow.laid) #[.agg #[.int .i64 0, .int .i64 0, .string ⟨#[]⟩], .agg #[.int .i64 0, .int .i64 0, .string ⟨#[]⟩], .agg #[.int .i64 0, .int .i64 0, .string ⟨#[]⟩]] 8 (World.laidAll_os _ _ _) (World.shaped_of_ZipB (by kernel_rfl) (by kernel_rfl)) (by kernel_rfl) (by kernel_rfl) (by kernel_rfl)
      (by rw [MakeChecks.laidMetH_plain _ _ _ (by kernel_rfl)]; exact laidMet_laidAll _ (by kernel_rfl) (by kernel_rfl))) ?_
  intro W base args ds gs before hval0 hW hcnd hsz0 hL _
  have hsz : (DataW.weightsEach Tryz.prog (Tryz.f4.params.toList ++ Rows.valueOrderSpec.plain.varTypes Tryz.prog) (ds ++ gs)).all (· ≤ reachBytes) = true := hsz0
  clear hsz0
  have hval : ∀ (j : Nat) t v, Tryz.f4.params[j]? = some t → args[j]? = some v → Value.okWide Tryz.prog W .any base t v := hval0
  have hW' := hW
  obtain ⟨p, q, hA0, hV, rfl, hfz, hnd⟩ := hW
  have hA : DataW.TrodAll enc Tryz.prog W 0 (fun _ => true) true Tryz.f4.params.toList args.toList ds p := hA0
  rw [Tryz.params4] at hA hval hsz
  obtain ⟨v0, v1, v2, d0, d1, d2, p0, p1, p2, rfl, rfl, rfl, h0, h1, h2⟩ := trodAll_three hA
  obtain ⟨rfl, rfl⟩ := trodVars_none hV
  obtain ⟨k0, n0, s0, rfl, hs0⟩ := open_value hsz 0 rfl rfl (hval 0 25 v0 rfl rfl) h0
  obtain ⟨k1, n1, s1, rfl, hs1⟩ := open_value hsz 1 rfl rfl (hval 1 25 v1 rfl rfl) h1
  obtain ⟨k2, n2, s2, rfl, hs2⟩ := open_value hsz 2 rfl rfl (hval 2 25 v2 rfl rfl) h2
  exact (valueorder_walk k0 n0 s0 k1 n1 s1 k2 n2 s2 W (Nat.le_trans hs0 (by decide))).mono fun e W' hok => law_post Tryz.laidOut rfl Tryz.underlying4 (by kernel_rfl) rfl hW' rfl hok

theorem valueorder_jplace : (Rows.valueOrderRow.inPlace == Tryz.pinned.checked.prog.inPlace 4) = true := by kernel_rfl
theorem valueorder_junf : (Rows.valueOrderRow.unfollowed == Tryz.pinned.checked.prog.unfollowed 4) = true := by kernel_rfl
theorem valueorder_jrec : (Rows.valueOrderRow.recurses == Tryz.pinned.checked.prog.recurses 4) = true := by kernel_rfl
theorem valueorder_jnamed : (Rows.valueOrderRow.named == Tryz.pinned.checked.prog.varsNamed 4) = true := by kernel_rfl
theorem valueorder_jwf : Rows.valueOrderRow.wf (OpenSpec.ofChange Rows.valueOrderSpec) = true := by kernel_rfl
theorem valueorder_jlaid : laidOutB Tryz.pinned.checked.prog = true := by kernel_rfl
theorem valueorder_jmaps : mapsRowed Tryz.pinned.checked.prog = true := by kernel_rfl
theorem valueorder_jtie : namedTie Tryz.pinned.checked.prog Rows.valueOrderRow.named Rows.valueOrderSpec.vars = true := by kernel_rfl
theorem valueorder_closed : joinedFacts Tryz.pinned.checked.prog 4 Tryz.f4 Rows.valueOrderSpec Rows.valueOrderRow = true := by
  unfold joinedFacts
  simp only [Bool.and_eq_true]
  exact ⟨⟨⟨⟨⟨⟨⟨⟨⟨⟨⟨⟨⟨⟨⟨⟨⟨⟨⟨⟨⟨⟨⟨⟨⟨⟨⟨⟨⟨⟨⟨valueorder_jwf, valueorder_jlaid⟩, valueorder_jmaps⟩, by kernel_rfl⟩, valueorder_jtie⟩, by kernel_rfl⟩, by kernel_rfl⟩, by kernel_rfl⟩, by kernel_rfl⟩, valueorder_jplace⟩, valueorder_junf⟩, valueorder_jrec⟩, valueorder_jnamed⟩, by kernel_rfl⟩, by kernel_rfl⟩, by kernel_rfl⟩, by kernel_rfl⟩, by kernel_rfl⟩, by kernel_rfl⟩, by kernel_rfl⟩, by kernel_rfl⟩, by kernel_rfl⟩, by kernel_rfl⟩, by kernel_rfl⟩, by kernel_rfl⟩, by kernel_rfl⟩, by kernel_rfl⟩, by kernel_rfl⟩, by kernel_rfl⟩, by kernel_rfl⟩, by kernel_rfl⟩, by kernel_rfl⟩
theorem valueorder_row : Rows.ValueOrderSaid :=
  OpenClaim.holds_of_wide 4 Tryz.f4 rfl rfl rfl rfl rfl rfl rfl ⟨rfl, rfl, rfl, rfl, rfl⟩ rfl rfl rfl rfl rfl (by kernel_rfl) Tryz.func4 valueorder_closed
    (of_decide_eq_true (by kernel_rfl)) (by unfold Func.isWrapper; first | (rw [if_pos (by decide +kernel)]; kernel_rfl) | (rw [if_neg (by decide +kernel)]; exact ⟨rfl, rfl⟩))
    (fun os started H enc _ => valueorder_lifted os started H enc)

theorem valueorder_holds : Rows.ValueOrderCardSaid :=
  Claim7.holds_tied_plain_at .later [] [.data, .data, .data, .data, .sentinel, .sentinel, .pinned] true Rows.valueOrderCard.stood.harness true
    valueorder_row (fun _ h => by cases h) (by kernel_rfl) (fun _ h => by cases h) valueOrder_row_tie rfl ⟨rfl, rfl⟩ (by kernel_rfl) rfl
    (fun f fn hf hfn => by
      obtain rfl : f = 4 := Option.some.inj ((show Tryz.prog.funcNamed "farandole/farandolelaw15.ValueOrder" = some 4 by kernel_rfl).symm.trans hf) |>.symm
      obtain rfl : fn = Tryz.f4 := (Option.some.inj (Tryz.func4.symm.trans hfn)).symm
      exact ⟨by kernel_rfl, fun j t ht => by
        have hall : (Tryz.f4.params.toList.all fun u => !Tryz.prog.wantsStandIn u) = true := by kernel_rfl
        have hm : t ∈ Tryz.f4.params.toList := by simpa using Array.mem_of_getElem? ht
        have := List.all_eq_true.1 hall t hm
        exact (show Tryz.prog.wantsStandIn t = false by simpa using this)⟩)
    (by kernel_rfl)
end Go.Proofs.YtnainhpcmoekcaaGreatDoor
