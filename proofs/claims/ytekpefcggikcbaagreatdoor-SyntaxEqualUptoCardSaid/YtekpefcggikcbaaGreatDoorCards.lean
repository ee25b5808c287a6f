/-
  DERIVED. GIVEN WITH THE SEED: THE CARDS: each row of YtekpefcggikcbaaGreatDoorRows.lean that lists a variable, with what it lists TIED to the program's text (the seventh form; the later family's looks); each row that meets fmt, with fmt's text TOLD by the authors' own Lean function (tested against real Go, not proved from fmt's source: count such statements apart). THE CARD IS WHAT COUNTS. Prove the row's statement (the work); the ties are given (YtekpefcggikcbaaGreatDoorTie.lean); close each card by the builder's one call (the guide's Derived/Test/ToyasCard.lean, 'card_holds'). Laid BY PROGRAM, IN A SANDBOX (cutbox-door.mjs). By AI agents, Wed Nov 11 2026. No macro, syntax, notation, axiom, sorry.
-/
import Derived.Test.YtekpefcggikcbaaGreatDoorRows
import GoSem.ClaimSeven
namespace Go.Proofs.YtekpefcggikcbaaGreatDoor
namespace Rows

/-- THE TIED CARD OF 'farandolelaw10.SyntaxSource'. -/
def syntaxSourceCard : Claim7 := { stood := { row := syntaxSourceRow, standIns := [], harness := (true, "67af1affc6383fdcfed14c6ca2306cb118f570dec377aa200c98a976b8d26ef1"), looks := false }, kinds := [], alts := [], laidByText := true, laidKinds := [.data, .data, .data, .data, .pinned], laidTests := true, laidLooks := .later }
def SyntaxSourceCardSaid : Prop := Claim7.holds Tryz.pinned (.plain (OpenSpec.ofChange syntaxSourceSpec)) syntaxSourceCard

/-- THE TIED CARD OF 'farandolelaw10.SyntaxPrint'. -/
def syntaxPrintCard : Claim7 := { stood := { row := syntaxPrintRow, standIns := [], harness := (true, "67af1affc6383fdcfed14c6ca2306cb118f570dec377aa200c98a976b8d26ef1"), looks := false }, kinds := [], alts := [], laidByText := true, laidKinds := [.data, .data, .data, .data, .pinned], laidTests := true, laidLooks := .later }
def SyntaxPrintCardSaid : Prop := Claim7.holds Tryz.pinned (.plain (OpenSpec.ofChange syntaxPrintSpec)) syntaxPrintCard

/-- THE TIED CARD OF 'farandolelaw10.SyntaxEqual'. -/
def syntaxEqualCard : Claim7 := { stood := { row := syntaxEqualRow, standIns := [], harness := (true, "67af1affc6383fdcfed14c6ca2306cb118f570dec377aa200c98a976b8d26ef1"), looks := false }, kinds := [], alts := [], laidByText := true, laidKinds := [.data, .data, .data, .data, .pinned], laidTests := true, laidLooks := .later }
def SyntaxEqualCardSaid : Prop := Claim7.holds Tryz.pinned (.plain (OpenSpec.ofChange syntaxEqualSpec)) syntaxEqualCard

/-- THE TIED CARD OF 'farandolelaw10.SyntaxBlanks'. -/
def syntaxBlanksCard : Claim7 := { stood := { row := syntaxBlanksRow, standIns := [], harness := (true, "67af1affc6383fdcfed14c6ca2306cb118f570dec377aa200c98a976b8d26ef1"), looks := false }, kinds := [], alts := [], laidByText := true, laidKinds := [.data, .data, .data, .data, .pinned], laidTests := true, laidLooks := .later }
def SyntaxBlanksCardSaid : Prop := Claim7.holds Tryz.pinned (.plain (OpenSpec.ofChange syntaxBlanksSpec)) syntaxBlanksCard

/-- THE TIED CARD OF 'farandolelaw10.SyntaxParts'. -/
def syntaxPartsCard : Claim7 := { stood := { row := syntaxPartsRow, standIns := [], harness := (true, "67af1affc6383fdcfed14c6ca2306cb118f570dec377aa200c98a976b8d26ef1"), looks := false }, kinds := [], alts := [], laidByText := true, laidKinds := [.data, .data, .data, .data, .pinned], laidTests := true, laidLooks := .later }
def SyntaxPartsCardSaid : Prop := Claim7.holds Tryz.pinned (.plain (OpenSpec.ofChange syntaxPartsSpec)) syntaxPartsCard

/-- THE TIED CARD OF 'farandolelaw10.SyntaxFirst'. -/
def syntaxFirstCard : Claim7 := { stood := { row := syntaxFirstRow, standIns := [], harness := (true, "67af1affc6383fdcfed14c6ca2306cb118f570dec377aa200c98a976b8d26ef1"), looks := false }, kinds := [], alts := [], laidByText := true, laidKinds := [.data, .data, .data, .data, .pinned], laidTests := true, laidLooks := .later }
def SyntaxFirstCardSaid : Prop := Claim7.holds Tryz.pinned (.plain (OpenSpec.ofChange syntaxFirstSpec)) syntaxFirstCard

/-- THE TIED CARD OF 'farandolelaw11.NamesTakes'. -/
def namesTakesCard : Claim7 := { stood := { row := namesTakesRow, standIns := [], harness := (true, "67af1affc6383fdcfed14c6ca2306cb118f570dec377aa200c98a976b8d26ef1"), looks := false }, kinds := [], alts := [], laidByText := true, laidKinds := [.data, .data, .data, .data, .pinned], laidTests := true, laidLooks := .later }
def NamesTakesCardSaid : Prop := Claim7.holds Tryz.pinned (.plain (OpenSpec.ofChange namesTakesSpec)) namesTakesCard

/-- THE TIED CARD OF 'farandolelaw11.NamesOrder'. -/
def namesOrderCard : Claim7 := { stood := { row := namesOrderRow, standIns := [], harness := (true, "67af1affc6383fdcfed14c6ca2306cb118f570dec377aa200c98a976b8d26ef1"), looks := false }, kinds := [], alts := [], laidByText := true, laidKinds := [.data, .data, .data, .data, .pinned], laidTests := true, laidLooks := .later }
def NamesOrderCardSaid : Prop := Claim7.holds Tryz.pinned (.plain (OpenSpec.ofChange namesOrderSpec)) namesOrderCard

/-- THE TIED CARD OF 'farandolelaw11.NamesRename'. -/
def namesRenameCard : Claim7 := { stood := { row := namesRenameRow, standIns := [], harness := (true, "67af1affc6383fdcfed14c6ca2306cb118f570dec377aa200c98a976b8d26ef1"), looks := false }, kinds := [], alts := [], laidByText := true, laidKinds := [.data, .data, .data, .data, .pinned], laidTests := true, laidLooks := .later }
def NamesRenameCardSaid : Prop := Claim7.holds Tryz.pinned (.plain (OpenSpec.ofChange namesRenameSpec)) namesRenameCard

/-- THE TIED CARD OF 'farandolelaw11.NamesAlone'. -/
def namesAloneCard : Claim7 := { stood := { row := namesAloneRow, standIns := [], harness := (true, "67af1affc6383fdcfed14c6ca2306cb118f570dec377aa200c98a976b8d26ef1"), looks := false }, kinds := [], alts := [], laidByText := true, laidKinds := [.data, .data, .data, .data, .pinned], laidTests := true, laidLooks := .later }
def NamesAloneCardSaid : Prop := Claim7.holds Tryz.pinned (.plain (OpenSpec.ofChange namesAloneSpec)) namesAloneCard

/-- THE SECOND FORM's CARD OF 'farandolelaw10.SyntaxSource'. -/
def syntaxSourceUptoCard : Claim7 := { stood := { row := syntaxSourceUptoRow, standIns := [], harness := (true, "67af1affc6383fdcfed14c6ca2306cb118f570dec377aa200c98a976b8d26ef1"), looks := false }, kinds := [], alts := [], laidByText := true, laidKinds := [.data, .data, .data, .data, .pinned], laidTests := true, laidLooks := .later }
def SyntaxSourceUptoCardSaid : Prop := Claim7.holds Tryz.pinned (.plain (OpenSpec.upto syntaxSourceSpec)) syntaxSourceUptoCard

/-- THE SECOND FORM's CARD OF 'farandolelaw10.SyntaxPrint'. -/
def syntaxPrintUptoCard : Claim7 := { stood := { row := syntaxPrintUptoRow, standIns := [], harness := (true, "67af1affc6383fdcfed14c6ca2306cb118f570dec377aa200c98a976b8d26ef1"), looks := false }, kinds := [], alts := [], laidByText := true, laidKinds := [.data, .data, .data, .data, .pinned], laidTests := true, laidLooks := .later }
def SyntaxPrintUptoCardSaid : Prop := Claim7.holds Tryz.pinned (.plain (OpenSpec.upto syntaxPrintSpec)) syntaxPrintUptoCard

/-- THE SECOND FORM's CARD OF 'farandolelaw10.SyntaxEqual'. -/
def syntaxEqualUptoCard : Claim7 := { stood := { row := syntaxEqualUptoRow, standIns := [], harness := (true, "67af1affc6383fdcfed14c6ca2306cb118f570dec377aa200c98a976b8d26ef1"), looks := false }, kinds := [], alts := [], laidByText := true, laidKinds := [.data, .data, .data, .data, .pinned], laidTests := true, laidLooks := .later }
def SyntaxEqualUptoCardSaid : Prop := Claim7.holds Tryz.pinned (.plain (OpenSpec.upto syntaxEqualSpec)) syntaxEqualUptoCard

/-- THE SECOND FORM's CARD OF 'farandolelaw10.SyntaxBlanks'. -/
def syntaxBlanksUptoCard : Claim7 := { stood := { row := syntaxBlanksUptoRow, standIns := [], harness := (true, "67af1affc6383fdcfed14c6ca2306cb118f570dec377aa200c98a976b8d26ef1"), looks := false }, kinds := [], alts := [], laidByText := true, laidKinds := [.data, .data, .data, .data, .pinned], laidTests := true, laidLooks := .later }
def SyntaxBlanksUptoCardSaid : Prop := Claim7.holds Tryz.pinned (.plain (OpenSpec.upto syntaxBlanksSpec)) syntaxBlanksUptoCard

/-- THE SECOND FORM's CARD OF 'farandolelaw10.SyntaxParts'. -/
def syntaxPartsUptoCard : Claim7 := { stood := { row := syntaxPartsUptoRow, standIns := [], harness := (true, "67af1affc6383fdcfed14c6ca2306cb118f570dec377aa200c98a976b8d26ef1"), looks := false }, kinds := [], alts := [], laidByText := true, laidKinds := [.data, .data, .data, .data, .pinned], laidTests := true, laidLooks := .later }
def SyntaxPartsUptoCardSaid : Prop := Claim7.holds Tryz.pinned (.plain (OpenSpec.upto syntaxPartsSpec)) syntaxPartsUptoCard

/-- THE SECOND FORM's CARD OF 'farandolelaw10.SyntaxFirst'. -/
def syntaxFirstUptoCard : Claim7 := { stood := { row := syntaxFirstUptoRow, standIns := [], harness := (true, "67af1affc6383fdcfed14c6ca2306cb118f570dec377aa200c98a976b8d26ef1"), looks := false }, kinds := [], alts := [], laidByText := true, laidKinds := [.data, .data, .data, .data, .pinned], laidTests := true, laidLooks := .later }
def SyntaxFirstUptoCardSaid : Prop := Claim7.holds Tryz.pinned (.plain (OpenSpec.upto syntaxFirstSpec)) syntaxFirstUptoCard

/-- THE SECOND FORM's CARD OF 'farandolelaw11.NamesTakes'. -/
def namesTakesUptoCard : Claim7 := { stood := { row := namesTakesUptoRow, standIns := [], harness := (true, "67af1affc6383fdcfed14c6ca2306cb118f570dec377aa200c98a976b8d26ef1"), looks := false }, kinds := [], alts := [], laidByText := true, laidKinds := [.data, .data, .data, .data, .pinned], laidTests := true, laidLooks := .later }
def NamesTakesUptoCardSaid : Prop := Claim7.holds Tryz.pinned (.plain (OpenSpec.upto namesTakesSpec)) namesTakesUptoCard

/-- THE SECOND FORM's CARD OF 'farandolelaw11.NamesOrder'. -/
def namesOrderUptoCard : Claim7 := { stood := { row := namesOrderUptoRow, standIns := [], harness := (true, "67af1affc6383fdcfed14c6ca2306cb118f570dec377aa200c98a976b8d26ef1"), looks := false }, kinds := [], alts := [], laidByText := true, laidKinds := [.data, .data, .data, .data, .pinned], laidTests := true, laidLooks := .later }
def NamesOrderUptoCardSaid : Prop := Claim7.holds Tryz.pinned (.plain (OpenSpec.upto namesOrderSpec)) namesOrderUptoCard

/-- THE SECOND FORM's CARD OF 'farandolelaw11.NamesRename'. -/
def namesRenameUptoCard : Claim7 := { stood := { row := namesRenameUptoRow, standIns := [], harness := (true, "67af1affc6383fdcfed14c6ca2306cb118f570dec377aa200c98a976b8d26ef1"), looks := false }, kinds := [], alts := [], laidByText := true, laidKinds := [.data, .data, .data, .data, .pinned], laidTests := true, laidLooks := .later }
def NamesRenameUptoCardSaid : Prop := Claim7.holds Tryz.pinned (.plain (OpenSpec.upto namesRenameSpec)) namesRenameUptoCard

/-- THE SECOND FORM's CARD OF 'farandolelaw11.NamesAlone'. -/
def namesAloneUptoCard : Claim7 := { stood := { row := namesAloneUptoRow, standIns := [], harness := (true, "67af1affc6383fdcfed14c6ca2306cb118f570dec377aa200c98a976b8d26ef1"), looks := false }, kinds := [], alts := [], laidByText := true, laidKinds := [.data, .data, .data, .data, .pinned], laidTests := true, laidLooks := .later }
def NamesAloneUptoCardSaid : Prop := Claim7.holds Tryz.pinned (.plain (OpenSpec.upto namesAloneSpec)) namesAloneUptoCard
end Rows
end Go.Proofs.YtekpefcggikcbaaGreatDoor
