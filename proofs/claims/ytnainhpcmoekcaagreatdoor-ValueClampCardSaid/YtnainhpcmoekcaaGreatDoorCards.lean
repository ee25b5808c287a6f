/-
  DERIVED. GIVEN WITH THE SEED: THE CARDS: each row of YtnainhpcmoekcaaGreatDoorRows.lean that lists a variable, with what it lists TIED to the program's text (the seventh form; the later family's looks); each row that meets fmt, with fmt's text TOLD by the authors' own Lean function (tested against real Go, not proved from fmt's source: count such statements apart). THE CARD IS WHAT COUNTS. Prove the row's statement (the work); the ties are given (YtnainhpcmoekcaaGreatDoorTie.lean); close each card by the builder's one call (the guide's Derived/Test/ToyasCard.lean, 'card_holds'). Laid BY PROGRAM, IN A SANDBOX (cutbox-door.mjs). By AI agents, Wed Nov 11 2026. No macro, syntax, notation, axiom, sorry.
-/
import Derived.Test.YtnainhpcmoekcaaGreatDoorRows
import GoSem.ClaimSeven
namespace Go.Proofs.YtnainhpcmoekcaaGreatDoor
namespace Rows

/-- THE TIED CARD OF 'farandolelaw15.ValueValid'. -/
def valueValidCard : Claim7 := { stood := { row := valueValidRow, standIns := [], harness := (true, "4e1dda99524279165e015bd40bb73ef4a98eac4f35499d26f4ea692e37540393"), looks := true }, kinds := [], alts := [], laidByText := true, laidKinds := [.data, .data, .data, .data, .sentinel, .sentinel, .pinned], laidTests := true, laidLooks := .later }
def ValueValidCardSaid : Prop := Claim7.holds Tryz.pinned (.plain (OpenSpec.ofChange valueValidSpec)) valueValidCard

/-- THE TIED CARD OF 'farandolelaw15.ValueOrder'. -/
def valueOrderCard : Claim7 := { stood := { row := valueOrderRow, standIns := [], harness := (true, "4e1dda99524279165e015bd40bb73ef4a98eac4f35499d26f4ea692e37540393"), looks := true }, kinds := [], alts := [], laidByText := true, laidKinds := [.data, .data, .data, .data, .sentinel, .sentinel, .pinned], laidTests := true, laidLooks := .later }
def ValueOrderCardSaid : Prop := Claim7.holds Tryz.pinned (.plain (OpenSpec.ofChange valueOrderSpec)) valueOrderCard

/-- THE TIED CARD OF 'farandolelaw15.ValueLeast'. -/
def valueLeastCard : Claim7 := { stood := { row := valueLeastRow, standIns := [], harness := (true, "4e1dda99524279165e015bd40bb73ef4a98eac4f35499d26f4ea692e37540393"), looks := true }, kinds := [], alts := [], laidByText := true, laidKinds := [.data, .data, .data, .data, .sentinel, .sentinel, .pinned], laidTests := true, laidLooks := .later }
def ValueLeastCardSaid : Prop := Claim7.holds Tryz.pinned (.plain (OpenSpec.ofChange valueLeastSpec)) valueLeastCard

/-- THE TIED CARD OF 'farandolelaw15.ValueClamp'. -/
def valueClampCard : Claim7 := { stood := { row := valueClampRow, standIns := [], harness := (true, "4e1dda99524279165e015bd40bb73ef4a98eac4f35499d26f4ea692e37540393"), looks := true }, kinds := [], alts := [], laidByText := true, laidKinds := [.data, .data, .data, .data, .sentinel, .sentinel, .pinned], laidTests := true, laidLooks := .later }
def ValueClampCardSaid : Prop := Claim7.holds Tryz.pinned (.plain (OpenSpec.ofChange valueClampSpec)) valueClampCard

/-- THE TIED CARD OF 'farandolelaw15.ValueMonotone'. -/
def valueMonotoneCard : Claim7 := { stood := { row := valueMonotoneRow, standIns := [], harness := (true, "4e1dda99524279165e015bd40bb73ef4a98eac4f35499d26f4ea692e37540393"), looks := true }, kinds := [], alts := [], laidByText := true, laidKinds := [.data, .data, .data, .data, .sentinel, .sentinel, .pinned], laidTests := true, laidLooks := .later }
def ValueMonotoneCardSaid : Prop := Claim7.holds Tryz.pinned (.plain (OpenSpec.ofChange valueMonotoneSpec)) valueMonotoneCard

/-- THE TIED CARD OF 'farandolelaw15.ValueShow'. -/
def valueShowCard : Claim7 := { stood := { row := valueShowRow, standIns := [], harness := (true, "4e1dda99524279165e015bd40bb73ef4a98eac4f35499d26f4ea692e37540393"), looks := true }, kinds := [], alts := [], laidByText := true, laidKinds := [.data, .data, .data, .data, .sentinel, .sentinel, .pinned], laidTests := true, laidLooks := .later }
def ValueShowCardSaid : Prop := Claim7.holds Tryz.pinned (.plain (OpenSpec.ofChange valueShowSpec)) valueShowCard

/-- THE TIED CARD OF 'farandolelaw15.ValueParse'. -/
def valueParseCard : Claim7 := { stood := { row := valueParseRow, standIns := [], harness := (true, "4e1dda99524279165e015bd40bb73ef4a98eac4f35499d26f4ea692e37540393"), looks := true }, kinds := [], alts := [], laidByText := true, laidKinds := [.data, .data, .data, .data, .sentinel, .sentinel, .pinned], laidTests := true, laidLooks := .later }
def ValueParseCardSaid : Prop := Claim7.holds Tryz.pinned (.plain (OpenSpec.ofChange valueParseSpec)) valueParseCard

/-- THE TIED CARD OF 'farandolelaw15.ValueLists'. -/
def valueListsCard : Claim7 := { stood := { row := valueListsRow, standIns := [], harness := (true, "4e1dda99524279165e015bd40bb73ef4a98eac4f35499d26f4ea692e37540393"), looks := true }, kinds := [], alts := [], laidByText := true, laidKinds := [.data, .data, .data, .data, .sentinel, .sentinel, .pinned], laidTests := true, laidLooks := .later }
def ValueListsCardSaid : Prop := Claim7.holds Tryz.pinned (.plain (OpenSpec.ofChange valueListsSpec)) valueListsCard

/-- THE TIED CARD OF 'farandolelaw15.ValueListNotation'. -/
def valueListNotationCard : Claim7 := { stood := { row := valueListNotationRow, standIns := [], harness := (true, "4e1dda99524279165e015bd40bb73ef4a98eac4f35499d26f4ea692e37540393"), looks := true }, kinds := [], alts := [], laidByText := true, laidKinds := [.data, .data, .data, .data, .sentinel, .sentinel, .pinned], laidTests := true, laidLooks := .later }
def ValueListNotationCardSaid : Prop := Claim7.holds Tryz.pinned (.plain (OpenSpec.ofChange valueListNotationSpec)) valueListNotationCard

/-- THE SECOND FORM's CARD OF 'farandolelaw15.ValueValid'. -/
def valueValidUptoCard : Claim7 := { stood := { row := valueValidUptoRow, standIns := [], harness := (true, "4e1dda99524279165e015bd40bb73ef4a98eac4f35499d26f4ea692e37540393"), looks := true }, kinds := [], alts := [], laidByText := true, laidKinds := [.data, .data, .data, .data, .sentinel, .sentinel, .pinned], laidTests := true, laidLooks := .later }
def ValueValidUptoCardSaid : Prop := Claim7.holds Tryz.pinned (.plain (OpenSpec.upto valueValidSpec)) valueValidUptoCard

/-- THE SECOND FORM's CARD OF 'farandolelaw15.ValueOrder'. -/
def valueOrderUptoCard : Claim7 := { stood := { row := valueOrderUptoRow, standIns := [], harness := (true, "4e1dda99524279165e015bd40bb73ef4a98eac4f35499d26f4ea692e37540393"), looks := true }, kinds := [], alts := [], laidByText := true, laidKinds := [.data, .data, .data, .data, .sentinel, .sentinel, .pinned], laidTests := true, laidLooks := .later }
def ValueOrderUptoCardSaid : Prop := Claim7.holds Tryz.pinned (.plain (OpenSpec.upto valueOrderSpec)) valueOrderUptoCard

/-- THE SECOND FORM's CARD OF 'farandolelaw15.ValueLeast'. -/
def valueLeastUptoCard : Claim7 := { stood := { row := valueLeastUptoRow, standIns := [], harness := (true, "4e1dda99524279165e015bd40bb73ef4a98eac4f35499d26f4ea692e37540393"), looks := true }, kinds := [], alts := [], laidByText := true, laidKinds := [.data, .data, .data, .data, .sentinel, .sentinel, .pinned], laidTests := true, laidLooks := .later }
def ValueLeastUptoCardSaid : Prop := Claim7.holds Tryz.pinned (.plain (OpenSpec.upto valueLeastSpec)) valueLeastUptoCard

/-- THE SECOND FORM's CARD OF 'farandolelaw15.ValueClamp'. -/
def valueClampUptoCard : Claim7 := { stood := { row := valueClampUptoRow, standIns := [], harness := (true, "4e1dda99524279165e015bd40bb73ef4a98eac4f35499d26f4ea692e37540393"), looks := true }, kinds := [], alts := [], laidByText := true, laidKinds := [.data, .data, .data, .data, .sentinel, .sentinel, .pinned], laidTests := true, laidLooks := .later }
def ValueClampUptoCardSaid : Prop := Claim7.holds Tryz.pinned (.plain (OpenSpec.upto valueClampSpec)) valueClampUptoCard

/-- THE SECOND FORM's CARD OF 'farandolelaw15.ValueMonotone'. -/
def valueMonotoneUptoCard : Claim7 := { stood := { row := valueMonotoneUptoRow, standIns := [], harness := (true, "4e1dda99524279165e015bd40bb73ef4a98eac4f35499d26f4ea692e37540393"), looks := true }, kinds := [], alts := [], laidByText := true, laidKinds := [.data, .data, .data, .data, .sentinel, .sentinel, .pinned], laidTests := true, laidLooks := .later }
def ValueMonotoneUptoCardSaid : Prop := Claim7.holds Tryz.pinned (.plain (OpenSpec.upto valueMonotoneSpec)) valueMonotoneUptoCard

/-- THE SECOND FORM's CARD OF 'farandolelaw15.ValueShow'. -/
def valueShowUptoCard : Claim7 := { stood := { row := valueShowUptoRow, standIns := [], harness := (true, "4e1dda99524279165e015bd40bb73ef4a98eac4f35499d26f4ea692e37540393"), looks := true }, kinds := [], alts := [], laidByText := true, laidKinds := [.data, .data, .data, .data, .sentinel, .sentinel, .pinned], laidTests := true, laidLooks := .later }
def ValueShowUptoCardSaid : Prop := Claim7.holds Tryz.pinned (.plain (OpenSpec.upto valueShowSpec)) valueShowUptoCard

/-- THE SECOND FORM's CARD OF 'farandolelaw15.ValueParse'. -/
def valueParseUptoCard : Claim7 := { stood := { row := valueParseUptoRow, standIns := [], harness := (true, "4e1dda99524279165e015bd40bb73ef4a98eac4f35499d26f4ea692e37540393"), looks := true }, kinds := [], alts := [], laidByText := true, laidKinds := [.data, .data, .data, .data, .sentinel, .sentinel, .pinned], laidTests := true, laidLooks := .later }
def ValueParseUptoCardSaid : Prop := Claim7.holds Tryz.pinned (.plain (OpenSpec.upto valueParseSpec)) valueParseUptoCard

/-- THE SECOND FORM's CARD OF 'farandolelaw15.ValueLists'. -/
def valueListsUptoCard : Claim7 := { stood := { row := valueListsUptoRow, standIns := [], harness := (true, "4e1dda99524279165e015bd40bb73ef4a98eac4f35499d26f4ea692e37540393"), looks := true }, kinds := [], alts := [], laidByText := true, laidKinds := [.data, .data, .data, .data, .sentinel, .sentinel, .pinned], laidTests := true, laidLooks := .later }
def ValueListsUptoCardSaid : Prop := Claim7.holds Tryz.pinned (.plain (OpenSpec.upto valueListsSpec)) valueListsUptoCard

/-- THE SECOND FORM's CARD OF 'farandolelaw15.ValueListNotation'. -/
def valueListNotationUptoCard : Claim7 := { stood := { row := valueListNotationUptoRow, standIns := [], harness := (true, "4e1dda99524279165e015bd40bb73ef4a98eac4f35499d26f4ea692e37540393"), looks := true }, kinds := [], alts := [], laidByText := true, laidKinds := [.data, .data, .data, .data, .sentinel, .sentinel, .pinned], laidTests := true, laidLooks := .later }
def ValueListNotationUptoCardSaid : Prop := Claim7.holds Tryz.pinned (.plain (OpenSpec.upto valueListNotationSpec)) valueListNotationUptoCard
end Rows
end Go.Proofs.YtnainhpcmoekcaaGreatDoor
