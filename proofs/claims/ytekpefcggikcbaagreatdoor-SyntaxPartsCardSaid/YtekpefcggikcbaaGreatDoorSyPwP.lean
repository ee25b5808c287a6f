/- SyntaxParts holds: for every input the law returns true, and its arguments read as before. The card: the tables of Go's library are as the program's text lays them. No other condition. -/
import Derived.Test.YtekpefcggikcbaaGreatDoorSyPw
import Derived.Test.YtekpefcggikcbaaGreatDoorMEqQ
import Derived.Test.YtekpefcggikcbaaGreatDoorMLaw
namespace Go.Proofs.YtekpefcggikcbaaGreatDoor
open Go.ChangeShapes Go.WideShapes Go.ChangeAt Go.RowKit Go.Joins

set_option maxRecDepth 100000 in
theorem syntaxparts_lifted (os : Os) (started : os.Started) (H : Type) (enc : TypeId × Value → H) :
    ReturnsInHanded {} Tryz.checked os 7 .any (fun w args => (Rows.syntaxPartsSpec.pre enc Tryz.prog Tryz.f7 [] false w args ∧ laidMetH Tryz.prog Rows.syntaxPartsRow.laid w) ∧ sizedMet enc Tryz.prog Tryz.f7 (OpenSpec.ofChange Rows.syntaxPartsSpec) false w args) (Rows.syntaxPartsSpec.post enc Tryz.prog Tryz.f7 false true false false) := by
  refine returnsInHanded_of_change_and (C := Tryz.checked) (X := fun w _ => laidMetH Tryz.prog Rows.syntaxPartsRow.laid w) (fun _ _ _ hh h => h.of_heap hh) Tryz.own started (by kernel_rfl) Tryz.func7
    (ChangeSpec.witness_shaped (enc := enc) (C := Tryz.checked) (os := os) (X := fun w _ => laidMetH Tryz.prog Rows.syntaxPartsRow.laid w) false (World.laidAll Tryz.prog os Rows.syntaxPartsRow.laid) #[.string ⟨#[]⟩, .string ⟨#[]⟩] 8 (World.laidAll_os _ _ _) (World.shaped_of_ZipB (by kernel_rfl) (by kernel_rfl)) (by kernel_rfl) (by kernel_rfl) (by kernel_rfl)
      (by rw [MakeChecks.laidMetH_plain _ _ _ (by kernel_rfl)]; exact laidMet_laidAll _ (by kernel_rfl) (by kernel_rfl))) ?_
  intro W base args ds gs before hval0 hW hcnd hsz0 hL _
  have hsz : (DataW.weightsEach Tryz.prog (Tryz.f7.params.toList ++ Rows.syntaxPartsSpec.plain.varTypes Tryz.prog) (ds ++ gs)).all (· ≤ reachBytes) = true := hsz0
  clear hsz0 hsz
  have hTab : Tb W := tb_of_laid hL
  have hval : ∀ (j : Nat) t v, Tryz.f7.params[j]? = some t → args[j]? = some v → Value.okWide Tryz.prog W .any base t v := hval0
  have hW' := hW
  obtain ⟨p, q, hA0, hV, rfl, hfz, hnd⟩ := hW
  have hA : DataW.TrodAll enc Tryz.prog W 0 (fun _ => true) true Tryz.f7.params.toList args.toList ds p := hA0
  rw [Tryz.params7] at hA hval
  obtain ⟨v0, v1, d0, d1, p0, p1, rfl, rfl, rfl, h0, h1⟩ := trodAll_two hA
  obtain ⟨rfl, rfl⟩ := trodVars_none hV
  obtain ⟨s0, rfl, rfl, _, _⟩ := Go.ChangeMaps.open_string Tryz.underlying9 (hval 0 9 v0 rfl rfl) h0
  obtain ⟨s1, rfl, rfl, _, _⟩ := Go.ChangeMaps.open_string Tryz.underlying9 (hval 1 9 v1 rfl rfl) h1
  have key := syntaxparts_walk hTab hTab.lt s0.data.toList s1.data.toList
  rw [← ofL_of s0, ← ofL_of s1] at key
  exact key.mono fun e W' hok => law_post Tryz.laidOut rfl Tryz.underlying4 (by kernel_rfl) rfl hW' rfl hok

theorem syntaxparts_jplace : (Rows.syntaxPartsRow.inPlace == Tryz.pinned.checked.prog.inPlace 7) = true := by kernel_rfl
theorem syntaxparts_junf : (Rows.syntaxPartsRow.unfollowed == Tryz.pinned.checked.prog.unfollowed 7) = true := by kernel_rfl
theorem syntaxparts_jrec : (Rows.syntaxPartsRow.recurses == Tryz.pinned.checked.prog.recurses 7) = true := by kernel_rfl
theorem syntaxparts_jnamed : (Rows.syntaxPartsRow.named == Tryz.pinned.checked.prog.varsNamed 7) = true := by kernel_rfl
theorem syntaxparts_jwf : Rows.syntaxPartsRow.wf (OpenSpec.ofChange Rows.syntaxPartsSpec) = true := by kernel_rfl
theorem syntaxparts_jlaid : laidOutB Tryz.pinned.checked.prog = true := by kernel_rfl
theorem syntaxparts_jmaps : mapsRowed Tryz.pinned.checked.prog = true := by kernel_rfl
theorem syntaxparts_jtie : namedTie Tryz.pinned.checked.prog Rows.syntaxPartsRow.named Rows.syntaxPartsSpec.vars = true := by kernel_rfl
theorem syntaxparts_closed : joinedFacts Tryz.pinned.checked.prog 7 Tryz.f7 Rows.syntaxPartsSpec Rows.syntaxPartsRow = true := by
  unfold joinedFacts
  simp only [Bool.and_eq_true]
  exact ⟨⟨⟨⟨⟨⟨⟨⟨⟨⟨⟨⟨⟨⟨⟨⟨⟨⟨⟨⟨⟨⟨⟨⟨⟨⟨⟨⟨⟨⟨⟨syntaxparts_jwf, syntaxparts_jlaid⟩, syntaxparts_jmaps⟩, by kernel_rfl⟩, syntaxparts_jtie⟩, by kernel_rfl⟩, by kernel_rfl⟩, by kernel_rfl⟩, by kernel_rfl⟩, syntaxparts_jplace⟩, syntaxparts_junf⟩, syntaxparts_jrec⟩, syntaxparts_jnamed⟩, by kernel_rfl⟩, by kernel_rfl⟩, by kernel_rfl⟩, by kernel_rfl⟩, by kernel_rfl⟩, by kernel_rfl⟩, by kernel_rfl⟩, by kernel_rfl⟩, by kernel_rfl⟩, by kernel_rfl⟩, by kernel_rfl⟩, by kernel_rfl⟩, by kernel_rfl⟩, by kernel_rfl⟩, by kernel_rfl⟩, by kernel_rfl⟩, by kernel_rfl⟩, by kernel_rfl⟩, by kernel_rfl⟩
theorem syntaxparts_row : Rows.SyntaxPartsSaid :=
  OpenClaim.holds_of_wide 7 Tryz.f7 rfl rfl rfl rfl rfl rfl rfl ⟨rfl, rfl, rfl, rfl, rfl⟩ rfl rfl rfl rfl rfl (by kernel_rfl) Tryz.func7 syntaxparts_closed
    (of_decide_eq_true (by kernel_rfl)) (by unfold Func.isWrapper; first | (rw [if_pos (by decide +kernel)]; kernel_rfl) | (rw [if_neg (by decide +kernel)]; exact ⟨rfl, rfl⟩))
    (fun os started H enc _ => syntaxparts_lifted os started H enc)

theorem syntaxparts_holds : Rows.SyntaxPartsCardSaid :=
  Claim7.holds_tied_plain_at .later [] [.data, .data, .data, .data, .pinned] true Rows.syntaxPartsCard.stood.harness false
    syntaxparts_row (fun _ h => by cases h) (by kernel_rfl) (fun _ h => by cases h) syntaxParts_row_tie rfl ⟨rfl, rfl⟩ (by kernel_rfl) rfl
    (fun f fn hf hfn => by
      obtain rfl : f = 7 := Option.some.inj ((show Tryz.prog.funcNamed "farandole/farandolelaw10.SyntaxParts" = some 7 by kernel_rfl).symm.trans hf) |>.symm
      obtain rfl : fn = Tryz.f7 := (Option.some.inj (Tryz.func7.symm.trans hfn)).symm
      exact ⟨by kernel_rfl, fun j t ht => by
        have hall : (Tryz.f7.params.toList.all fun u => !Tryz.prog.wantsStandIn u) = true := by kernel_rfl
        have hm : t ∈ Tryz.f7.params.toList := by simpa using Array.mem_of_getElem? ht
        have := List.all_eq_true.1 hall t hm
        exact (show Tryz.prog.wantsStandIn t = false by simpa using this)⟩)
    (by kernel_rfl)
end Go.Proofs.YtekpefcggikcbaaGreatDoor
