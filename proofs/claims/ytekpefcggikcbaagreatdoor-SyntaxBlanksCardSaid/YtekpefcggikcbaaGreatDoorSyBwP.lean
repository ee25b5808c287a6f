/- SyntaxBlanks holds: for every input the law returns true, and its arguments read as before. The card: the tables of Go's library are as the program's text lays them. No other condition. -/
import Derived.Test.YtekpefcggikcbaaGreatDoorSyBw
import Derived.Test.YtekpefcggikcbaaGreatDoorMEqQ
import Derived.Test.YtekpefcggikcbaaGreatDoorMLaw
namespace Go.Proofs.YtekpefcggikcbaaGreatDoor
open Go.ChangeShapes Go.WideShapes Go.ChangeAt Go.RowKit Go.Joins

set_option maxRecDepth 100000 in
theorem syntaxblanks_lifted (os : Os) (started : os.Started) (H : Type) (enc : TypeId × Value → H) :
    ReturnsInHanded {} Tryz.checked os 6 .any (fun w args => (Rows.syntaxBlanksSpec.pre enc Tryz.prog Tryz.f6 [] false w args ∧ laidMetH Tryz.prog Rows.syntaxBlanksRow.laid w) ∧ sizedMet enc Tryz.prog Tryz.f6 (OpenSpec.ofChange Rows.syntaxBlanksSpec) false w args) (Rows.syntaxBlanksSpec.post enc Tryz.prog Tryz.f6 false true false false) := by
  refine returnsInHanded_of_change_and (C := Tryz.checked) (X := fun w _ => laidMetH Tryz.prog Rows.syntaxBlanksRow.laid w) (fun _ _ _ hh h => h.of_heap hh) Tryz.own started (by kernel_rfl) Tryz.func6
    (ChangeSpec.witness_shaped (enc := enc) (C := Tryz.checked) (os := os) (X := fun w _ => laidMetH Tryz.prog Rows.syntaxBlanksRow.laid w) false (World.laidAll Tryz.prog os Rows.syntaxBlanksRow.laid) #[.string ⟨#[]⟩, .slice none 0 0] 8 (World.laidAll_os _ _ _) (World.shaped_of_ZipB (by kernel_rfl) (by kernel_rfl)) (by kernel_rfl) (by kernel_rfl) (by kernel_rfl)
      (by rw [MakeChecks.laidMetH_plain _ _ _ (by kernel_rfl)]; exact laidMet_laidAll _ (by kernel_rfl) (by kernel_rfl))) ?_
  intro W base args ds gs before hval0 hW hcnd hsz0 hL _
  have hsz : (DataW.weightsEach Tryz.prog (Tryz.f6.params.toList ++ Rows.syntaxBlanksSpec.plain.varTypes Tryz.prog) (ds ++ gs)).all (· ≤ reachBytes) = true := hsz0
  clear hsz0
  have hTab : Tb W := tb_of_laid hL
  have hval : ∀ (j : Nat) t v, Tryz.f6.params[j]? = some t → args[j]? = some v → Value.okWide Tryz.prog W .any base t v := hval0
  have hW' := hW
  obtain ⟨p, q, hA0, hV, rfl, hfz, hnd⟩ := hW
  have hA : DataW.TrodAll enc Tryz.prog W 0 (fun _ => true) true Tryz.f6.params.toList args.toList ds p := hA0
  rw [Tryz.params6] at hA hval hsz
  obtain ⟨v0, v1, d0, d1, p0, p1, rfl, rfl, rfl, h0, h1⟩ := trodAll_two hA
  obtain ⟨rfl, rfl⟩ := trodVars_none hV
  obtain ⟨s0, rfl, rfl, _, _⟩ := Go.ChangeMaps.open_string Tryz.underlying9 (hval 0 9 v0 rfl rfl) h0
  obtain ⟨A1, c1, xs1, rfl, hx1, hb1, hl1⟩ := open_bytes Tryz.underlying41 Tryz.underlying5 (by kernel_rfl) (by kernel_rfl) hsz 1 rfl rfl (hval 1 41 v1 rfl rfl) h1
  have key := syntaxblanks_walk hTab hTab.lt s0.data.toList A1 c1 xs1 hx1 hb1 hl1
  rw [← ofL_of s0] at key
  exact key.mono fun e W' hok => law_post Tryz.laidOut rfl Tryz.underlying4 (by kernel_rfl) rfl hW' rfl hok

theorem syntaxblanks_jplace : (Rows.syntaxBlanksRow.inPlace == Tryz.pinned.checked.prog.inPlace 6) = true := by kernel_rfl
theorem syntaxblanks_junf : (Rows.syntaxBlanksRow.unfollowed == Tryz.pinned.checked.prog.unfollowed 6) = true := by kernel_rfl
theorem syntaxblanks_jrec : (Rows.syntaxBlanksRow.recurses == Tryz.pinned.checked.prog.recurses 6) = true := by kernel_rfl
theorem syntaxblanks_jnamed : (Rows.syntaxBlanksRow.named == Tryz.pinned.checked.prog.varsNamed 6) = true := by kernel_rfl
theorem syntaxblanks_jwf : Rows.syntaxBlanksRow.wf (OpenSpec.ofChange Rows.syntaxBlanksSpec) = true := by kernel_rfl
theorem syntaxblanks_jlaid : laidOutB Tryz.pinned.checked.prog = true := by kernel_rfl
theorem syntaxblanks_jmaps : mapsRowed Tryz.pinned.checked.prog = true := by kernel_rfl
theorem syntaxblanks_jtie : namedTie Tryz.pinned.checked.prog Rows.syntaxBlanksRow.named Rows.syntaxBlanksSpec.vars = true := by kernel_rfl
theorem syntaxblanks_closed : joinedFacts Tryz.pinned.checked.prog 6 Tryz.f6 Rows.syntaxBlanksSpec Rows.syntaxBlanksRow = true := by
  unfold joinedFacts
  simp only [Bool.and_eq_true]
  exact ⟨⟨⟨⟨⟨⟨⟨⟨⟨⟨⟨⟨⟨⟨⟨⟨⟨⟨⟨⟨⟨⟨⟨⟨⟨⟨⟨⟨⟨⟨⟨syntaxblanks_jwf, syntaxblanks_jlaid⟩, syntaxblanks_jmaps⟩, by kernel_rfl⟩, syntaxblanks_jtie⟩, by kernel_rfl⟩, by kernel_rfl⟩, by kernel_rfl⟩, by kernel_rfl⟩, syntaxblanks_jplace⟩, syntaxblanks_junf⟩, syntaxblanks_jrec⟩, syntaxblanks_jnamed⟩, by kernel_rfl⟩, by kernel_rfl⟩, by kernel_rfl⟩, by kernel_rfl⟩, by kernel_rfl⟩, by kernel_rfl⟩, by kernel_rfl⟩, by kernel_rfl⟩, by kernel_rfl⟩, by kernel_rfl⟩, by kernel_rfl⟩, by kernel_rfl⟩, by kernel_rfl⟩, by kernel_rfl⟩, by kernel_rfl⟩, by kernel_rfl⟩, by kernel_rfl⟩, by kernel_rfl⟩, by kernel_rfl⟩
theorem syntaxblanks_row : Rows.SyntaxBlanksSaid :=
  OpenClaim.holds_of_wide 6 Tryz.f6 rfl rfl rfl rfl rfl rfl rfl ⟨rfl, rfl, rfl, rfl, rfl⟩ rfl rfl rfl rfl rfl (by kernel_rfl) Tryz.func6 syntaxblanks_closed
    (of_decide_eq_true (by kernel_rfl)) (by unfold Func.isWrapper; first | (rw [if_pos (by decide +kernel)]; kernel_rfl) | (rw [if_neg (by decide +kernel)]; exact ⟨rfl, rfl⟩))
    (fun os started H enc _ => syntaxblanks_lifted os started H enc)

theorem syntaxblanks_holds : Rows.SyntaxBlanksCardSaid :=
  Claim7.holds_tied_plain_at .later [] [.data, .data, .data, .data, .pinned] true Rows.syntaxBlanksCard.stood.harness false
    syntaxblanks_row (fun _ h => by cases h) (by kernel_rfl) (fun _ h => by cases h) syntaxBlanks_row_tie rfl ⟨rfl, rfl⟩ (by kernel_rfl) rfl
    (fun f fn hf hfn => by
      obtain rfl : f = 6 := Option.some.inj ((show Tryz.prog.funcNamed "farandole/farandolelaw10.SyntaxBlanks" = some 6 by kernel_rfl).symm.trans hf) |>.symm
      obtain rfl : fn = Tryz.f6 := (Option.some.inj (Tryz.func6.symm.trans hfn)).symm
      exact ⟨by kernel_rfl, fun j t ht => by
        have hall : (Tryz.f6.params.toList.all fun u => !Tryz.prog.wantsStandIn u) = true := by kernel_rfl
        have hm : t ∈ Tryz.f6.params.toList := by simpa using Array.mem_of_getElem? ht
        have := List.all_eq_true.1 hall t hm
        exact (show Tryz.prog.wantsStandIn t = false by simpa using this)⟩)
    (by kernel_rfl)
end Go.Proofs.YtekpefcggikcbaaGreatDoor
