/-
  DERIVED. GIVEN WITH THE SEED: THE CARDS: each row of YtockgbilbnheaaaDoorRows.lean that lists a variable, with what it lists TIED to the program's text (the seventh form; the later family's looks); each row that meets fmt, with fmt's text TOLD by the authors' own Lean function (tested against real Go, not proved from fmt's source: count such statements apart). THE CARD IS WHAT COUNTS. Prove the row's statement (the work); the ties are given (YtockgbilbnheaaaDoorTie.lean); close each card by the builder's one call (the guide's Derived/Test/ToyasCard.lean, 'card_holds'). Laid BY PROGRAM, IN A SANDBOX (cutbox-door.mjs). By AI agents, Wed Nov 11 2026. No macro, syntax, notation, axiom, sorry.
-/
import Derived.Test.YtockgbilbnheaaaDoorRows
import GoSem.ClaimSeven
namespace Go.Proofs.YtockgbilbnheaaaDoor
namespace Rows

/-- THE TIED CARD OF 'farandolelaw05.NfaClosures'. -/
def nfaClosuresCard : Claim7 := { stood := { row := nfaClosuresRow, standIns := [], harness := (true, "b19ff32a86a9229770e5331dcd5e7c7c5f58aff7b92a299eaada0e3e99a676de"), looks := false }, kinds := [], alts := [], laidByText := true, laidKinds := [.data], laidTests := true, laidLooks := .later }
def NfaClosuresCardSaid : Prop := Claim7.holds Tryd.pinned (.plain (OpenSpec.ofChange nfaClosuresSpec)) nfaClosuresCard

/-- THE TIED CARD OF 'farandolelaw05.NfaShortest'. -/
def nfaShortestCard : Claim7 := { stood := { row := nfaShortestRow, standIns := [], harness := (true, "b19ff32a86a9229770e5331dcd5e7c7c5f58aff7b92a299eaada0e3e99a676de"), looks := false }, kinds := [], alts := [], laidByText := true, laidKinds := [.data], laidTests := true, laidLooks := .later }
def NfaShortestCardSaid : Prop := Claim7.holds Tryd.pinned (.plain (OpenSpec.ofChange nfaShortestSpec)) nfaShortestCard

/-- THE SECOND FORM's CARD OF 'farandolelaw05.NfaClosures'. -/
def nfaClosuresUptoCard : Claim7 := { stood := { row := nfaClosuresUptoRow, standIns := [], harness := (true, "b19ff32a86a9229770e5331dcd5e7c7c5f58aff7b92a299eaada0e3e99a676de"), looks := false }, kinds := [], alts := [], laidByText := true, laidKinds := [.data], laidTests := true, laidLooks := .later }
def NfaClosuresUptoCardSaid : Prop := Claim7.holds Tryd.pinned (.plain (OpenSpec.upto nfaClosuresSpec)) nfaClosuresUptoCard

/-- THE SECOND FORM's CARD OF 'farandolelaw05.NfaShortest'. -/
def nfaShortestUptoCard : Claim7 := { stood := { row := nfaShortestUptoRow, standIns := [], harness := (true, "b19ff32a86a9229770e5331dcd5e7c7c5f58aff7b92a299eaada0e3e99a676de"), looks := false }, kinds := [], alts := [], laidByText := true, laidKinds := [.data], laidTests := true, laidLooks := .later }
def NfaShortestUptoCardSaid : Prop := Claim7.holds Tryd.pinned (.plain (OpenSpec.upto nfaShortestSpec)) nfaShortestUptoCard
end Rows
end Go.Proofs.YtockgbilbnheaaaDoor
