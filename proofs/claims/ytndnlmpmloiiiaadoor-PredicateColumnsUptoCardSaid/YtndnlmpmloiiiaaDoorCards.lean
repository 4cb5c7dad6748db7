/-
  DERIVED. GIVEN WITH THE SEED: THE CARDS: each row of YtndnlmpmloiiiaaDoorRows.lean that lists a variable, with what it lists TIED to the program's text (the seventh form; the later family's looks); each row that meets fmt, with fmt's text TOLD by the authors' own Lean function (tested against real Go, not proved from fmt's source: count such statements apart). THE CARD IS WHAT COUNTS. Prove the row's statement (the work); the ties are given (YtndnlmpmloiiiaaDoorTie.lean); close each card by the builder's one call (the guide's Derived/Test/ToyasCard.lean, 'card_holds'). Laid BY PROGRAM, IN A SANDBOX (cutbox-door.mjs). By AI agents, Wed Nov 11 2026. No macro, syntax, notation, axiom, sorry.
-/
import Derived.Test.YtndnlmpmloiiiaaDoorRows
import GoSem.ClaimSeven
namespace Go.Proofs.YtndnlmpmloiiiaaDoor
namespace Rows

/-- THE TIED CARD OF 'partsynclaw05.PredicateChecks'. -/
def predicateChecksCard : Claim7 := { stood := { row := predicateChecksRow, standIns := [], harness := (true, "62304b6054be119b6ae2d039ac867110b2739c12822506048046d376c491136a"), looks := false }, kinds := [], alts := [], laidByText := true, laidKinds := [.data], laidTests := true, laidLooks := .later }
def PredicateChecksCardSaid : Prop := Claim7.holds Tryd.pinned (.plain (OpenSpec.ofChange predicateChecksSpec)) predicateChecksCard

/-- THE TIED CARD OF 'partsynclaw05.PredicateHolds'. -/
def predicateHoldsCard : Claim7 := { stood := { row := predicateHoldsRow, standIns := [], harness := (true, "62304b6054be119b6ae2d039ac867110b2739c12822506048046d376c491136a"), looks := false }, kinds := [], alts := [], laidByText := true, laidKinds := [.data], laidTests := true, laidLooks := .later }
def PredicateHoldsCardSaid : Prop := Claim7.holds Tryd.pinned (.plain (OpenSpec.ofChange predicateHoldsSpec)) predicateHoldsCard

/-- THE TIED CARD OF 'partsynclaw05.PredicateBinds'. -/
def predicateBindsCard : Claim7 := { stood := { row := predicateBindsRow, standIns := [], harness := (true, "62304b6054be119b6ae2d039ac867110b2739c12822506048046d376c491136a"), looks := false }, kinds := [], alts := [], laidByText := true, laidKinds := [.data], laidTests := true, laidLooks := .later }
def PredicateBindsCardSaid : Prop := Claim7.holds Tryd.pinned (.plain (OpenSpec.ofChange predicateBindsSpec)) predicateBindsCard

/-- THE TIED CARD OF 'partsynclaw05.PredicateColumns'. -/
def predicateColumnsCard : Claim7 := { stood := { row := predicateColumnsRow, standIns := [], harness := (true, "62304b6054be119b6ae2d039ac867110b2739c12822506048046d376c491136a"), looks := false }, kinds := [], alts := [], laidByText := true, laidKinds := [.data], laidTests := true, laidLooks := .later }
def PredicateColumnsCardSaid : Prop := Claim7.holds Tryd.pinned (.plain (OpenSpec.ofChange predicateColumnsSpec)) predicateColumnsCard

/-- THE TIED CARD OF 'partsynclaw05.PredicateEquals'. -/
def predicateEqualsCard : Claim7 := { stood := { row := predicateEqualsRow, standIns := [], harness := (true, "62304b6054be119b6ae2d039ac867110b2739c12822506048046d376c491136a"), looks := false }, kinds := [], alts := [], laidByText := true, laidKinds := [.data], laidTests := true, laidLooks := .later }
def PredicateEqualsCardSaid : Prop := Claim7.holds Tryd.pinned (.plain (OpenSpec.ofChange predicateEqualsSpec)) predicateEqualsCard

/-- THE SECOND FORM's CARD OF 'partsynclaw05.PredicateChecks'. -/
def predicateChecksUptoCard : Claim7 := { stood := { row := predicateChecksUptoRow, standIns := [], harness := (true, "62304b6054be119b6ae2d039ac867110b2739c12822506048046d376c491136a"), looks := false }, kinds := [], alts := [], laidByText := true, laidKinds := [.data], laidTests := true, laidLooks := .later }
def PredicateChecksUptoCardSaid : Prop := Claim7.holds Tryd.pinned (.plain (OpenSpec.upto predicateChecksSpec)) predicateChecksUptoCard

/-- THE SECOND FORM's CARD OF 'partsynclaw05.PredicateHolds'. -/
def predicateHoldsUptoCard : Claim7 := { stood := { row := predicateHoldsUptoRow, standIns := [], harness := (true, "62304b6054be119b6ae2d039ac867110b2739c12822506048046d376c491136a"), looks := false }, kinds := [], alts := [], laidByText := true, laidKinds := [.data], laidTests := true, laidLooks := .later }
def PredicateHoldsUptoCardSaid : Prop := Claim7.holds Tryd.pinned (.plain (OpenSpec.upto predicateHoldsSpec)) predicateHoldsUptoCard

/-- THE SECOND FORM's CARD OF 'partsynclaw05.PredicateBinds'. -/
def predicateBindsUptoCard : Claim7 := { stood := { row := predicateBindsUptoRow, standIns := [], harness := (true, "62304b6054be119b6ae2d039ac867110b2739c12822506048046d376c491136a"), looks := false }, kinds := [], alts := [], laidByText := true, laidKinds := [.data], laidTests := true, laidLooks := .later }
def PredicateBindsUptoCardSaid : Prop := Claim7.holds Tryd.pinned (.plain (OpenSpec.upto predicateBindsSpec)) predicateBindsUptoCard

/-- THE SECOND FORM's CARD OF 'partsynclaw05.PredicateColumns'. -/
def predicateColumnsUptoCard : Claim7 := { stood := { row := predicateColumnsUptoRow, standIns := [], harness := (true, "62304b6054be119b6ae2d039ac867110b2739c12822506048046d376c491136a"), looks := false }, kinds := [], alts := [], laidByText := true, laidKinds := [.data], laidTests := true, laidLooks := .later }
def PredicateColumnsUptoCardSaid : Prop := Claim7.holds Tryd.pinned (.plain (OpenSpec.upto predicateColumnsSpec)) predicateColumnsUptoCard

/-- THE SECOND FORM's CARD OF 'partsynclaw05.PredicateEquals'. -/
def predicateEqualsUptoCard : Claim7 := { stood := { row := predicateEqualsUptoRow, standIns := [], harness := (true, "62304b6054be119b6ae2d039ac867110b2739c12822506048046d376c491136a"), looks := false }, kinds := [], alts := [], laidByText := true, laidKinds := [.data], laidTests := true, laidLooks := .later }
def PredicateEqualsUptoCardSaid : Prop := Claim7.holds Tryd.pinned (.plain (OpenSpec.upto predicateEqualsSpec)) predicateEqualsUptoCard
end Rows
end Go.Proofs.YtndnlmpmloiiiaaDoor
