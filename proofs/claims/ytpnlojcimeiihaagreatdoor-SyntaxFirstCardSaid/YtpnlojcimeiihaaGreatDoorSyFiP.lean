/- SyntaxFirst holds: for every input the law returns true, and its arguments read as before. The card: the tables of Go's library are as the program's text lays them. No other condition. -/
import Derived.Test.YtpnlojcimeiihaaGreatDoorSyFw
import Derived.Test.YtpnlojcimeiihaaGreatDoorMSvW
import Derived.Test.YtpnlojcimeiihaaGreatDoorMLaw
namespace Go.Proofs.YtpnlojcimeiihaaGreatDoor
open Go.ChangeShapes Go.WideShapes Go.ChangeAt Go.RowKit Go.Joins

set_option maxRecDepth 100000 in
theorem syntaxfirst_lifted (os : Os) (started : os.Started) (H : Type) (enc : TypeId × Value → H) :
    ReturnsInHanded {} Tryz.checked os 8 .any (fun w args => (Rows.syntaxFirstSpec.pre enc Tryz.prog Tryz.f8 [] false w args ∧ laidMetH Tryz.prog Rows.syntaxFirstRow.laid w) ∧ sizedMet enc Tryz.prog Tryz.f8 (OpenSpec.ofChange Rows.syntaxFirstSpec) false w args) (Rows.syntaxFirstSpec.post enc Tryz.prog Tryz.f8 false true false false) := by
  refine returnsInHanded_of_change_and (C := Tryz.checked) (X := fun w _ => laidMetH Tryz.prog Rows.syntaxFirstRow.laid w) (fun _ _ _ hh h => h.of_heap hh) Tryz.own started (by kernel_rfl) Tryz.func8
    (ChangeSpec.witness_shaped (enc := enc) (C := Tryz.checked) (os := os) (X := fun w _ => laidMetH Tryz.prog Rows.syntaxFirstRow.laid w) false (World.laidAll Tryz.prog os Rows.syntaxFirstRow.laid) #[.string ⟨#[]⟩, .string ⟨#[]⟩] 8 (World.laidAll_os _ _ _) (World.shaped_of_ZipB (by kernel_rfl) (by kernel_rfl)) (by kernel_rfl) (by kernel_rfl) (by kernel_rfl)
      (by rw [MakeChecks.laidMetH_plain _ _ _ (by kernel_rfl)]; exact laidMet_laidAll _ (by kernel_rfl) (by kernel_rfl))) ?_
  intro W base args ds gs before hval0 hW hcnd hsz0 hL _
  have hsz : (DataW.weightsEach Tryz.prog (Tryz.f8.params.toList ++ Rows.syntaxFirstSpec.plain.varTypes Tryz.prog) (ds ++ gs)).all (· ≤ reachBytes) = true := hsz0
  clear hsz0 hsz
  have hTab : Tb W := tb_of_laid hL
  have hval : ∀ (j : Nat) t v, Tryz.f8.params[j]? = some t → args[j]? = some v → Value.okWide Tryz.prog W .any base t v := hval0
  have hW' := hW
  obtain ⟨p, q, hA0, hV, rfl, hfz, hnd⟩ := hW
  have hA : DataW.TrodAll enc Tryz.prog W 0 (fun _ => true) true Tryz.f8.params.toList args.toList ds p := hA0
  rw [Tryz.params8] at hA hval
  obtain ⟨v0, v1, d0, d1, p0, p1, rfl, rfl, rfl, h0, h1⟩ := trodAll_two hA
  obtain ⟨rfl, rfl⟩ := trodVars_none hV
  obtain ⟨s0, rfl, rfl, _, _⟩ := Go.ChangeMaps.open_string Tryz.underlying9 (hval 0 9 v0 rfl rfl) h0
  obtain ⟨s1, rfl, rfl, _, _⟩ := Go.ChangeMaps.open_string Tryz.underlying9 (hval 1 9 v1 rfl rfl) h1
  have key := syntaxfirst_walk hTab hTab.lt s0.data.toList s1.data.toList
  rw [← ofL_of s0, ← ofL_of s1] at key
  exact key.mono fun e W' hok => law_post Tryz.laidOut rfl Tryz.underlying4 (by kernel_rfl) rfl hW' rfl hok

theorem syntaxfirst_jplace : (Rows.syntaxFirstRow.inPlace == Tryz.pinned.checked.prog.inPlace 8) = true := by kernel_rfl
theorem syntaxfirst_junf : (Rows.syntaxFirstRow.unfollowed == Tryz.pinned.checked.prog.unfollowed 8) = true := by kernel_rfl
theorem syntaxfirst_jrec : (Rows.syntaxFirstRow.recurses == Tryz.pinned.checked.prog.recurses 8) = true := by kernel_rfl
theorem syntaxfirst_jnamed : (Rows.syntaxFirstRow.named == Tryz.pinned.checked.prog.varsNamed 8) = true := by kernel_rfl
theorem syntaxfirst_jwf : Rows.syntaxFirstRow.wf (OpenSpec.ofChange Rows.syntaxFirstSpec) = true := by kernel_rfl
theorem syntaxfirst_jlaid : laidOutB Tryz.pinned.checked.prog = true := by kernel_rfl
theorem syntaxfirst_jmaps : mapsRowed Tryz.pinned.checked.prog = true := by kernel_rfl
theorem syntaxfirst_jtie : namedTie Tryz.pinned.checked.prog Rows.syntaxFirstRow.named Rows.syntaxFirstSpec.vars = true := by kernel_rfl
theorem syntaxfirst_closed : joinedFacts Tryz.pinned.checked.prog 8 Tryz.f8 Rows.syntaxFirstSpec Rows.syntaxFirstRow = true := by
  unfold joinedFacts
  simp only [Bool.and_eq_true]
  exact ⟨⟨⟨⟨⟨⟨⟨⟨⟨⟨⟨⟨⟨⟨⟨⟨⟨⟨⟨⟨⟨⟨⟨⟨⟨⟨⟨⟨⟨⟨⟨syntaxfirst_jwf, syntaxfirst_jlaid⟩, syntaxfirst_jmaps⟩, by kernel_rfl⟩, syntaxfirst_jtie⟩, by kernel_rfl⟩, by kernel_rfl⟩, by kernel_rfl⟩, by kernel_rfl⟩, syntaxfirst_jplace⟩, syntaxfirst_junf⟩, syntaxfirst_jrec⟩, syntaxfirst_jnamed⟩, by kernel_rfl⟩, by kernel_rfl⟩, by kernel_rfl⟩, by kernel_rfl⟩, by kernel_rfl⟩, by kernel_rfl⟩, by kernel_rfl⟩, by kernel_rfl⟩, by kernel_rfl⟩, by kernel_rfl⟩, by kernel_rfl⟩, by kernel_rfl⟩, by kernel_rfl⟩, by kernel_rfl⟩, by kernel_rfl⟩, by kernel_rfl⟩, by kernel_rfl⟩, by kernel_rfl⟩, by kernel_rfl⟩
theorem syntaxfirst_row : Rows.SyntaxFirstSaid :=
  OpenClaim.holds_of_wide 8 Tryz.f8 rfl rfl rfl rfl rfl rfl rfl ⟨rfl, rfl, rfl, rfl, rfl⟩ rfl rfl rfl rfl rfl (by kernel_rfl) Tryz.func8 syntaxfirst_closed
    (of_decide_eq_true (by kernel_rfl)) (by unfold Func.isWrapper; first | (rw [if_pos (by decide +kernel)]; kernel_rfl) | (rw [if_neg (by decide +kernel)]; exact ⟨rfl, rfl⟩))
    (fun os started H enc _ => syntaxfirst_lifted os started H enc)

theorem syntaxfirst_holds : Rows.SyntaxFirstCardSaid :=
  Claim7.holds_tied_plain_at .later [] [.data, .data, .data, .data, .pinned] true Rows.syntaxFirstCard.stood.harness false
    syntaxfirst_row (fun _ h => by cases h) (by kernel_rfl) (fun _ h => by cases h) syntaxFirst_row_tie rfl ⟨rfl, rfl⟩ (by kernel_rfl) rfl
    (fun f fn hf hfn => by
      obtain rfl : f = 8 := Option.some.inj ((show Tryz.prog.funcNamed "farandole/farandolelaw10.SyntaxFirst" = some 8 by kernel_rfl).symm.trans hf) |>.symm
      obtain rfl : fn = Tryz.f8 := (Option.some.inj (Tryz.func8.symm.trans hfn)).symm
      exact ⟨by kernel_rfl, fun j t ht => by
        have hall : (Tryz.f8.params.toList.all fun u => !Tryz.prog.wantsStandIn u) = true := by kernel_rfl
        have hm : t ∈ Tryz.f8.params.toList := by simpa using Array.mem_of_getElem? ht
        have := List.all_eq_true.1 hall t hm
        exact (show Tryz.prog.wantsStandIn t = false by simpa using this)⟩)
    (by kernel_rfl)
end Go.Proofs.YtpnlojcimeiihaaGreatDoor
