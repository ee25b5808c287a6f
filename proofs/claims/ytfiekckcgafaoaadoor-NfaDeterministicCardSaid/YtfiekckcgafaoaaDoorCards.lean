/-
  DERIVED. GIVEN WITH THE SEED: THE CARDS: each row of YtfiekckcgafaoaaDoorRows.lean that lists a variable, with what it lists TIED to the program's text (the seventh form; the later family's looks); each row that meets fmt, with fmt's text TOLD by the authors' own Lean function (tested against real Go, not proved from fmt's source: count such statements apart). THE CARD IS WHAT COUNTS. Prove the row's statement (the work); the ties are given (YtfiekckcgafaoaaDoorTie.lean); close each card by the builder's one call (the guide's Derived/Test/ToyasCard.lean, 'card_holds'). Laid BY PROGRAM, IN A SANDBOX (cutbox-door.mjs). By AI agents, Wed Nov 11 2026. No macro, syntax, notation, axiom, sorry.
-/
import Derived.Test.YtfiekckcgafaoaaDoorRows
import GoSem.ClaimSeven
namespace Go.Proofs.YtfiekckcgafaoaaDoor
namespace Rows

/-- THE TIED CARD OF 'farandolelaw05.NfaClosures'. -/
def nfaClosuresCard : Claim7 := { stood := { row := nfaClosuresRow, standIns := [], harness := (true, "bef1368bf3459d95416bd3640d545a40b873e2749928d86686f572e97a85aad1"), looks := false }, kinds := [], alts := [], laidByText := true, laidKinds := [.data], laidTests := true, laidLooks := .later }
def NfaClosuresCardSaid : Prop := Claim7.holds Tryd.pinned (.plain (OpenSpec.ofChange nfaClosuresSpec)) nfaClosuresCard

/-- THE TIED CARD OF 'farandolelaw05.NfaDeterministic'. -/
def nfaDeterministicCard : Claim7 := { stood := { row := nfaDeterministicRow, standIns := [], harness := (true, "bef1368bf3459d95416bd3640d545a40b873e2749928d86686f572e97a85aad1"), looks := false }, kinds := [], alts := [], laidByText := true, laidKinds := [.data], laidTests := true, laidLooks := .later }
def NfaDeterministicCardSaid : Prop := Claim7.holds Tryd.pinned (.plain (OpenSpec.ofChange nfaDeterministicSpec)) nfaDeterministicCard

/-- THE SECOND FORM's CARD OF 'farandolelaw05.NfaClosures'. -/
def nfaClosuresUptoCard : Claim7 := { stood := { row := nfaClosuresUptoRow, standIns := [], harness := (true, "bef1368bf3459d95416bd3640d545a40b873e2749928d86686f572e97a85aad1"), looks := false }, kinds := [], alts := [], laidByText := true, laidKinds := [.data], laidTests := true, laidLooks := .later }
def NfaClosuresUptoCardSaid : Prop := Claim7.holds Tryd.pinned (.plain (OpenSpec.upto nfaClosuresSpec)) nfaClosuresUptoCard

/-- THE SECOND FORM's CARD OF 'farandolelaw05.NfaDeterministic'. -/
def nfaDeterministicUptoCard : Claim7 := { stood := { row := nfaDeterministicUptoRow, standIns := [], harness := (true, "bef1368bf3459d95416bd3640d545a40b873e2749928d86686f572e97a85aad1"), looks := false }, kinds := [], alts := [], laidByText := true, laidKinds := [.data], laidTests := true, laidLooks := .later }
def NfaDeterministicUptoCardSaid : Prop := Claim7.holds Tryd.pinned (.plain (OpenSpec.upto nfaDeterministicSpec)) nfaDeterministicUptoCard
end Rows
end Go.Proofs.YtfiekckcgafaoaaDoor
