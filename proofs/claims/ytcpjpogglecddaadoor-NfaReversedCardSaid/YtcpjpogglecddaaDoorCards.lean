/-
  DERIVED. GIVEN WITH THE SEED: THE CARDS: each row of YtcpjpogglecddaaDoorRows.lean that lists a variable, with what it lists TIED to the program's text (the seventh form; the later family's looks); each row that meets fmt, with fmt's text TOLD by the authors' own Lean function (tested against real Go, not proved from fmt's source: count such statements apart). THE CARD IS WHAT COUNTS. Prove the row's statement (the work); the ties are given (YtcpjpogglecddaaDoorTie.lean); close each card by the builder's one call (the guide's Derived/Test/ToyasCard.lean, 'card_holds'). Laid BY PROGRAM, IN A SANDBOX (cutbox-door.mjs). By AI agents, Wed Nov 11 2026. No macro, syntax, notation, axiom, sorry.
-/
import Derived.Test.YtcpjpogglecddaaDoorRows
import GoSem.ClaimSeven
namespace Go.Proofs.YtcpjpogglecddaaDoor
namespace Rows

/-- THE TIED CARD OF 'farandolelaw05.NfaClosures'. -/
def nfaClosuresCard : Claim7 := { stood := { row := nfaClosuresRow, standIns := [], harness := (true, "ce2439304e2417b9a600295e27e8f33d66451216c9f53973744cdc7a68b532ab"), looks := false }, kinds := [], alts := [], laidByText := true, laidKinds := [.data], laidTests := true, laidLooks := .later }
def NfaClosuresCardSaid : Prop := Claim7.holds Tryd.pinned (.plain (OpenSpec.ofChange nfaClosuresSpec)) nfaClosuresCard

/-- THE TIED CARD OF 'farandolelaw05.NfaReversed'. -/
def nfaReversedCard : Claim7 := { stood := { row := nfaReversedRow, standIns := [], harness := (true, "ce2439304e2417b9a600295e27e8f33d66451216c9f53973744cdc7a68b532ab"), looks := false }, kinds := [], alts := [], laidByText := true, laidKinds := [.data], laidTests := true, laidLooks := .later }
def NfaReversedCardSaid : Prop := Claim7.holds Tryd.pinned (.plain (OpenSpec.ofChange nfaReversedSpec)) nfaReversedCard

/-- THE SECOND FORM's CARD OF 'farandolelaw05.NfaClosures'. -/
def nfaClosuresUptoCard : Claim7 := { stood := { row := nfaClosuresUptoRow, standIns := [], harness := (true, "ce2439304e2417b9a600295e27e8f33d66451216c9f53973744cdc7a68b532ab"), looks := false }, kinds := [], alts := [], laidByText := true, laidKinds := [.data], laidTests := true, laidLooks := .later }
def NfaClosuresUptoCardSaid : Prop := Claim7.holds Tryd.pinned (.plain (OpenSpec.upto nfaClosuresSpec)) nfaClosuresUptoCard

/-- THE SECOND FORM's CARD OF 'farandolelaw05.NfaReversed'. -/
def nfaReversedUptoCard : Claim7 := { stood := { row := nfaReversedUptoRow, standIns := [], harness := (true, "ce2439304e2417b9a600295e27e8f33d66451216c9f53973744cdc7a68b532ab"), looks := false }, kinds := [], alts := [], laidByText := true, laidKinds := [.data], laidTests := true, laidLooks := .later }
def NfaReversedUptoCardSaid : Prop := Claim7.holds Tryd.pinned (.plain (OpenSpec.upto nfaReversedSpec)) nfaReversedUptoCard
end Rows
end Go.Proofs.YtcpjpogglecddaaDoor
