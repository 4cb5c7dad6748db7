/-
  NARROWER THAN 'FOR EVERY INPUT', by the rows' own cells (each row's printed sentence says how): SchemaNames: laid · SchemaFinds: loops, laid · SchemaFits: loops, laid · SchemaModes: laid.
  DERIVED. THE GIVEN ROWS OF THIS SEAT. 4 by the template 'for every input the law returns true; each argument reads behind the call as it read before'; 0 by the template 'total and deterministic' (their statements: YtlchcakmcikjnaaDoorTotals.lean).
  GIVEN WITH THE SEED: the statements are not yours to turn. If you find one false, say at which input.
  Laid BY PROGRAM, IN A SANDBOX (cutbox-rows.mjs): the forced cells as the released guide's own fill.sh prints them over the translation fdadfb8605ee852b… (all of the seat's roots in one cut). By AI agents, Wed Nov 11 2026. No macro, syntax, notation, axiom, sorry.
-/
import Derived.Test.YtlchcakmcikjnaaDoorChecked
import GoSem.Claim
import GoSem.ClaimJoined
import GoSem.ClaimMapViews
import Derived.JoinedTies
import Derived.KernelRfl
namespace Go.Proofs.YtlchcakmcikjnaaDoor
/- THE CELL 'sum', in the pinned program and in every row, IS THE sha256 OF THE DUMP (.gsa) THAT YtlchcakmcikjnaaDoorProg.lean LOADS. Nothing in Lean hashes anything: it is a label: what it is worth is what the hold of that sum in a sandbox is worth. -/
noncomputable def Tryd.pinned : Pinned := { name := "ytlchcakmcikjnaadoor", sum := "fdadfb8605ee852b4b570805273e451dbdf723085f4896192b5a420117422efd", checked := Tryd.checked }
namespace Rows
def none {H : Type} : Left H := { results := [], args := [] }

/- WHAT THE LISTED PACKAGE-LEVEL VARIABLES READ AS WHEN THE CALL BEGINS. Each datum BY PROGRAM (the guide's laid-datum.mjs) off the statement by which the dump's own 'gosem.cut.vars' lays the variable. In a bare row this is a premise. The card (YtlchcakmcikjnaaDoorCards.lean) ties it to the program's text. -/
def laid_partsync_predicate_shapes {H : Type} : DataW H := .agg [.agg [.lit (.bool false), .lit (.int .i64 0), .lit (.int .i64 0)], .agg [.lit (.bool false), .lit (.int .i64 0), .lit (.int .i64 0)], .agg [.lit (.bool false), .lit (.int .i64 0), .lit (.int .i64 0)], .agg [.lit (.bool true), .lit (.int .i64 0), .lit (.int .i64 0)], .agg [.lit (.bool false), .lit (.int .i64 0), .lit (.int .i64 24)], .agg [.lit (.bool false), .lit (.int .i64 0), .lit (.int .i64 24)], .agg [.lit (.bool false), .lit (.int .i64 1), .lit (.int .i64 1)]]

/-- 'partsynclaw07.SchemaNames': WHATEVER THE INPUT: true; the input reads as it did. -/
def schemaNamesSpec : ChangeSpec := { name := "schemaNames", fn := fun _ => fun
  | [d1, d2] => { results := [.lit (.bool true)], args := [d1, d2] }
  | _ => none }
def schemaNamesRow : OpenClaim := { program := "ytlchcakmcikjnaadoor", sum := "fdadfb8605ee852b4b570805273e451dbdf723085f4896192b5a420117422efd", func := "partsync/partsynclaw07.SchemaNames", spec := "schemaNames", unfollowed := true, recurses := true, named := ["partsync/predicate.shapes"], apart := false, laid := [("partsync/predicate.shapes", laid_partsync_predicate_shapes)] }
def SchemaNamesSaid : Prop := schemaNamesRow.holds Tryd.pinned (OpenSpec.ofChange schemaNamesSpec)

/-- ITS FALSE NEIGHBOUR: 'it returns false'. Refute it at one input. -/
def schemaNamesWrong : ChangeSpec := { name := "schemaNames", fn := fun _ => fun
  | [d1, d2] => { results := [.lit (.bool false)], args := [d1, d2] }
  | _ => none }
def SchemaNamesWrongFalsely : Prop := schemaNamesRow.holds Tryd.pinned (OpenSpec.ofChange schemaNamesWrong)

/-- 'partsynclaw07.SchemaFinds': WHATEVER THE INPUT: true; the input reads as it did. -/
def schemaFindsSpec : ChangeSpec := { name := "schemaFinds", fn := fun _ => fun
  | [d1, d2, d3, d4, d5] => { results := [.lit (.bool true)], args := [d1, d2, d3, d4, d5] }
  | _ => none }
def schemaFindsRow : OpenClaim := { program := "ytlchcakmcikjnaadoor", sum := "fdadfb8605ee852b4b570805273e451dbdf723085f4896192b5a420117422efd", func := "partsync/partsynclaw07.SchemaFinds", spec := "schemaFinds", unfollowed := true, recurses := true, named := ["partsync/predicate.shapes"], loops := true, apart := false, laid := [("partsync/predicate.shapes", laid_partsync_predicate_shapes)] }
def SchemaFindsSaid : Prop := schemaFindsRow.holds Tryd.pinned (OpenSpec.ofChange schemaFindsSpec)

/-- ITS FALSE NEIGHBOUR: 'it returns false'. Refute it at one input. -/
def schemaFindsWrong : ChangeSpec := { name := "schemaFinds", fn := fun _ => fun
  | [d1, d2, d3, d4, d5] => { results := [.lit (.bool false)], args := [d1, d2, d3, d4, d5] }
  | _ => none }
def SchemaFindsWrongFalsely : Prop := schemaFindsRow.holds Tryd.pinned (OpenSpec.ofChange schemaFindsWrong)

/-- 'partsynclaw07.SchemaFits': WHATEVER THE INPUT: true; the input reads as it did. -/
def schemaFitsSpec : ChangeSpec := { name := "schemaFits", fn := fun _ => fun
  | [d1, d2, d3, d4, d5] => { results := [.lit (.bool true)], args := [d1, d2, d3, d4, d5] }
  | _ => none }
def schemaFitsRow : OpenClaim := { program := "ytlchcakmcikjnaadoor", sum := "fdadfb8605ee852b4b570805273e451dbdf723085f4896192b5a420117422efd", func := "partsync/partsynclaw07.SchemaFits", spec := "schemaFits", unfollowed := true, recurses := true, named := ["partsync/predicate.shapes"], loops := true, apart := false, laid := [("partsync/predicate.shapes", laid_partsync_predicate_shapes)] }
def SchemaFitsSaid : Prop := schemaFitsRow.holds Tryd.pinned (OpenSpec.ofChange schemaFitsSpec)

/-- ITS FALSE NEIGHBOUR: 'it returns false'. Refute it at one input. -/
def schemaFitsWrong : ChangeSpec := { name := "schemaFits", fn := fun _ => fun
  | [d1, d2, d3, d4, d5] => { results := [.lit (.bool false)], args := [d1, d2, d3, d4, d5] }
  | _ => none }
def SchemaFitsWrongFalsely : Prop := schemaFitsRow.holds Tryd.pinned (OpenSpec.ofChange schemaFitsWrong)

/-- 'partsynclaw07.SchemaModes': WHATEVER THE INPUT: true; the input reads as it did. -/
def schemaModesSpec : ChangeSpec := { name := "schemaModes", fn := fun _ => fun
  | [d1, d2] => { results := [.lit (.bool true)], args := [d1, d2] }
  | _ => none }
def schemaModesRow : OpenClaim := { program := "ytlchcakmcikjnaadoor", sum := "fdadfb8605ee852b4b570805273e451dbdf723085f4896192b5a420117422efd", func := "partsync/partsynclaw07.SchemaModes", spec := "schemaModes", unfollowed := true, recurses := true, named := ["partsync/predicate.shapes"], apart := false, laid := [("partsync/predicate.shapes", laid_partsync_predicate_shapes)] }
def SchemaModesSaid : Prop := schemaModesRow.holds Tryd.pinned (OpenSpec.ofChange schemaModesSpec)

/-- ITS FALSE NEIGHBOUR: 'it returns false'. Refute it at one input. -/
def schemaModesWrong : ChangeSpec := { name := "schemaModes", fn := fun _ => fun
  | [d1, d2] => { results := [.lit (.bool false)], args := [d1, d2] }
  | _ => none }
def SchemaModesWrongFalsely : Prop := schemaModesRow.holds Tryd.pinned (OpenSpec.ofChange schemaModesWrong)

/- THE SECOND FORM. 'bulk': how many values and letters a reading holds, each counted each time it is reached (what is shared counts as often as it is met; a slice's spare places count too). A statement '..UptoSaid' is the law's where the arguments, and the package variables that the reading takes, are together of bulk at most 1048576: NARROWER than '..Said'. Prove '..Said' where nothing that the law and all that it calls make is longer than what came in: it says more and counts as full. Else prove '..UptoSaid'. A law counts once. -/
mutual
def uptoBulk {H : Type} : DataW H → Nat
  | .lit (.string bytes) => bytes.length + 1
  | .lit _ => 1
  | .nil => 1
  | .ptr d => uptoBulk d + 1
  | .slice elems spare => uptoBulkAll elems + uptoBulkAll spare + 1
  | .agg parts => uptoBulkAll parts + 1
  | .iface _ d => uptoBulk d + 1
  | .map entries => uptoBulkEntries entries + 1
  | .held _ => 1
def uptoBulkAll {H : Type} : List (DataW H) → Nat
  | [] => 0
  | d :: r => uptoBulk d + uptoBulkAll r
def uptoBulkEntries {H : Type} : List (Lit × DataW H) → Nat
  | [] => 0
  | x :: r => uptoBulkEntry x + uptoBulkEntries r
def uptoBulkEntry {H : Type} : Lit × DataW H → Nat
  | (.string bytes, d) => bytes.length + uptoBulk d + 1
  | (_, d) => uptoBulk d + 1
 end
def uptoSmall : (H : Type) → List (DataW H) → Bool := fun _ ds => decide (uptoBulkAll ds ≤ 1048576)
def OpenSpec.upto (s : _root_.Go.ChangeSpec) : _root_.Go.OpenSpec := { _root_.Go.OpenSpec.ofChange s with cond := some uptoSmall }

/-- 'partsynclaw07.SchemaNames', WHERE WHAT IT READS IS OF BULK AT MOST 1048576: true; the input reads as it did. -/
def schemaNamesUptoRow : OpenClaim := { program := "ytlchcakmcikjnaadoor", sum := "fdadfb8605ee852b4b570805273e451dbdf723085f4896192b5a420117422efd", func := "partsync/partsynclaw07.SchemaNames", spec := "schemaNames", unfollowed := true, recurses := true, named := ["partsync/predicate.shapes"], apart := false, laid := [("partsync/predicate.shapes", laid_partsync_predicate_shapes)], narrowed := true }
def SchemaNamesUptoSaid : Prop := schemaNamesUptoRow.holds Tryd.pinned (OpenSpec.upto schemaNamesSpec)

/-- 'partsynclaw07.SchemaFinds', WHERE WHAT IT READS IS OF BULK AT MOST 1048576: true; the input reads as it did. -/
def schemaFindsUptoRow : OpenClaim := { program := "ytlchcakmcikjnaadoor", sum := "fdadfb8605ee852b4b570805273e451dbdf723085f4896192b5a420117422efd", func := "partsync/partsynclaw07.SchemaFinds", spec := "schemaFinds", unfollowed := true, recurses := true, named := ["partsync/predicate.shapes"], loops := true, apart := false, laid := [("partsync/predicate.shapes", laid_partsync_predicate_shapes)], narrowed := true }
def SchemaFindsUptoSaid : Prop := schemaFindsUptoRow.holds Tryd.pinned (OpenSpec.upto schemaFindsSpec)

/-- 'partsynclaw07.SchemaFits', WHERE WHAT IT READS IS OF BULK AT MOST 1048576: true; the input reads as it did. -/
def schemaFitsUptoRow : OpenClaim := { program := "ytlchcakmcikjnaadoor", sum := "fdadfb8605ee852b4b570805273e451dbdf723085f4896192b5a420117422efd", func := "partsync/partsynclaw07.SchemaFits", spec := "schemaFits", unfollowed := true, recurses := true, named := ["partsync/predicate.shapes"], loops := true, apart := false, laid := [("partsync/predicate.shapes", laid_partsync_predicate_shapes)], narrowed := true }
def SchemaFitsUptoSaid : Prop := schemaFitsUptoRow.holds Tryd.pinned (OpenSpec.upto schemaFitsSpec)

/-- 'partsynclaw07.SchemaModes', WHERE WHAT IT READS IS OF BULK AT MOST 1048576: true; the input reads as it did. -/
def schemaModesUptoRow : OpenClaim := { program := "ytlchcakmcikjnaadoor", sum := "fdadfb8605ee852b4b570805273e451dbdf723085f4896192b5a420117422efd", func := "partsync/partsynclaw07.SchemaModes", spec := "schemaModes", unfollowed := true, recurses := true, named := ["partsync/predicate.shapes"], apart := false, laid := [("partsync/predicate.shapes", laid_partsync_predicate_shapes)], narrowed := true }
def SchemaModesUptoSaid : Prop := schemaModesUptoRow.holds Tryd.pinned (OpenSpec.upto schemaModesSpec)

end Rows
end Go.Proofs.YtlchcakmcikjnaaDoor
