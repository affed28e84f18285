/-
  NARROWER THAN 'FOR EVERY INPUT', by the rows' own cells (each row's printed sentence says how): PageSeals: laid · PageOpens: laid · PageTold: laid · PageMoved: laid.
  DERIVED. THE GIVEN ROWS OF THIS SEAT. 4 by the template 'for every input the law returns true; each argument reads behind the call as it read before'; 0 by the template 'total and deterministic' (their statements: YtnhihkngelckoaaDoorTotals.lean).
  GIVEN WITH THE SEED: the statements are not yours to turn. If you find one false, say at which input.
  Laid BY PROGRAM, IN A SANDBOX (cutbox-rows.mjs): the forced cells as the released guide's own fill.sh prints them over the translation 10101bd2f2d06665… (all of the seat's roots in one cut). By AI agents, Wed Nov 11 2026. No macro, syntax, notation, axiom, sorry.
-/
import Derived.Test.YtnhihkngelckoaaDoorChecked
import GoSem.Claim
import GoSem.ClaimJoined
import GoSem.ClaimMapViews
import Derived.JoinedTies
import Derived.KernelRfl
namespace Go.Proofs.YtnhihkngelckoaaDoor
/- THE CELL 'sum', in the pinned program and in every row, IS THE sha256 OF THE DUMP (.gsa) THAT YtnhihkngelckoaaDoorProg.lean LOADS. Nothing in Lean hashes anything: it is a label: what it is worth is what the hold of that sum in a sandbox is worth. -/
noncomputable def Tryd.pinned : Pinned := { name := "ytnhihkngelckoaadoor", sum := "10101bd2f2d066656c3997b174f88854e12de421be748b3759d9b6d2b334336c", checked := Tryd.checked }
namespace Rows
def none {H : Type} : Left H := { results := [], args := [] }

/- WHAT THE LISTED PACKAGE-LEVEL VARIABLES READ AS WHEN THE CALL BEGINS. Each datum BY PROGRAM (the guide's laid-datum.mjs) off the statement by which the dump's own 'gosem.cut.vars' lays the variable. In a bare row this is a premise. The card (YtnhihkngelckoaaDoorCards.lean) ties it to the program's text. -/
def laid_cashbook_crc_halves {H : Type} : DataW H := .agg [.lit (.int .u32 0), .lit (.int .u32 274646895), .lit (.int .u32 549293790), .lit (.int .u32 820201905), .lit (.int .u32 1098587580), .lit (.int .u32 1361435347), .lit (.int .u32 1640403810), .lit (.int .u32 1905808397), .lit (.int .u32 2197175160), .lit (.int .u32 2460548119), .lit (.int .u32 2722870694), .lit (.int .u32 2987750089), .lit (.int .u32 3280807620), .lit (.int .u32 3553878443), .lit (.int .u32 3811616794), .lit (.int .u32 4084100981)]

/-- 'cashbooklaw06.PageSeals': WHATEVER THE INPUT: true; the input reads as it did. -/
def pageSealsSpec : ChangeSpec := { name := "pageSeals", fn := fun _ => fun
  | [d1, d2, d3] => { results := [.lit (.bool true)], args := [d1, d2, d3] }
  | _ => none }
def pageSealsRow : OpenClaim := { program := "ytnhihkngelckoaadoor", sum := "10101bd2f2d066656c3997b174f88854e12de421be748b3759d9b6d2b334336c", func := "cashbook/cashbooklaw06.PageSeals", spec := "pageSeals", named := ["cashbook/crc.halves"], apart := false, laid := [("cashbook/crc.halves", laid_cashbook_crc_halves)] }
def PageSealsSaid : Prop := pageSealsRow.holds Tryd.pinned (OpenSpec.ofChange pageSealsSpec)

/-- ITS FALSE NEIGHBOUR: 'it returns false'. Refute it at one input. -/
def pageSealsWrong : ChangeSpec := { name := "pageSeals", fn := fun _ => fun
  | [d1, d2, d3] => { results := [.lit (.bool false)], args := [d1, d2, d3] }
  | _ => none }
def PageSealsWrongFalsely : Prop := pageSealsRow.holds Tryd.pinned (OpenSpec.ofChange pageSealsWrong)

/-- 'cashbooklaw06.PageOpens': WHATEVER THE INPUT: true; the input reads as it did. -/
def pageOpensSpec : ChangeSpec := { name := "pageOpens", fn := fun _ => fun
  | [d1, d2, d3] => { results := [.lit (.bool true)], args := [d1, d2, d3] }
  | _ => none }
def pageOpensRow : OpenClaim := { program := "ytnhihkngelckoaadoor", sum := "10101bd2f2d066656c3997b174f88854e12de421be748b3759d9b6d2b334336c", func := "cashbook/cashbooklaw06.PageOpens", spec := "pageOpens", named := ["cashbook/crc.halves"], apart := false, laid := [("cashbook/crc.halves", laid_cashbook_crc_halves)] }
def PageOpensSaid : Prop := pageOpensRow.holds Tryd.pinned (OpenSpec.ofChange pageOpensSpec)

/-- ITS FALSE NEIGHBOUR: 'it returns false'. Refute it at one input. -/
def pageOpensWrong : ChangeSpec := { name := "pageOpens", fn := fun _ => fun
  | [d1, d2, d3] => { results := [.lit (.bool false)], args := [d1, d2, d3] }
  | _ => none }
def PageOpensWrongFalsely : Prop := pageOpensRow.holds Tryd.pinned (OpenSpec.ofChange pageOpensWrong)

/-- 'cashbooklaw06.PageTold': WHATEVER THE INPUT: true; the input reads as it did. -/
def pageToldSpec : ChangeSpec := { name := "pageTold", fn := fun _ => fun
  | [d1, d2, d3] => { results := [.lit (.bool true)], args := [d1, d2, d3] }
  | _ => none }
def pageToldRow : OpenClaim := { program := "ytnhihkngelckoaadoor", sum := "10101bd2f2d066656c3997b174f88854e12de421be748b3759d9b6d2b334336c", func := "cashbook/cashbooklaw06.PageTold", spec := "pageTold", named := ["cashbook/crc.halves"], apart := false, laid := [("cashbook/crc.halves", laid_cashbook_crc_halves)] }
def PageToldSaid : Prop := pageToldRow.holds Tryd.pinned (OpenSpec.ofChange pageToldSpec)

/-- ITS FALSE NEIGHBOUR: 'it returns false'. Refute it at one input. -/
def pageToldWrong : ChangeSpec := { name := "pageTold", fn := fun _ => fun
  | [d1, d2, d3] => { results := [.lit (.bool false)], args := [d1, d2, d3] }
  | _ => none }
def PageToldWrongFalsely : Prop := pageToldRow.holds Tryd.pinned (OpenSpec.ofChange pageToldWrong)

/-- 'cashbooklaw06.PageMoved': WHATEVER THE INPUT: true; the input reads as it did. -/
def pageMovedSpec : ChangeSpec := { name := "pageMoved", fn := fun _ => fun
  | [d1, d2, d3] => { results := [.lit (.bool true)], args := [d1, d2, d3] }
  | _ => none }
def pageMovedRow : OpenClaim := { program := "ytnhihkngelckoaadoor", sum := "10101bd2f2d066656c3997b174f88854e12de421be748b3759d9b6d2b334336c", func := "cashbook/cashbooklaw06.PageMoved", spec := "pageMoved", named := ["cashbook/crc.halves"], apart := false, laid := [("cashbook/crc.halves", laid_cashbook_crc_halves)] }
def PageMovedSaid : Prop := pageMovedRow.holds Tryd.pinned (OpenSpec.ofChange pageMovedSpec)

/-- ITS FALSE NEIGHBOUR: 'it returns false'. Refute it at one input. -/
def pageMovedWrong : ChangeSpec := { name := "pageMoved", fn := fun _ => fun
  | [d1, d2, d3] => { results := [.lit (.bool false)], args := [d1, d2, d3] }
  | _ => none }
def PageMovedWrongFalsely : Prop := pageMovedRow.holds Tryd.pinned (OpenSpec.ofChange pageMovedWrong)

/- THE SECOND FORM. 'bulk': how many values and letters a reading holds, each counted each time it is reached (what is shared counts as often as it is met; a slice's spare places count too). A statement '..UptoSaid' is the law's where the arguments, and the package variables that the reading takes, are together of bulk at most 1048576: NARROWER than '..Said'. Prove '..Said' where nothing that the law and all that it calls make is longer than what came in: it says more and counts as full. Else prove '..UptoSaid'. A law counts once. -/
mutual
def uptoBulk {H : Type} : DataW H → Nat
  | .lit (.string bytes) => bytes.length + 1
  | .lit _ => 1
  | .nil => 1
  | .ptr d => uptoBulk d + 1
  | .slice elems spare => uptoBulkAll elems + uptoBulkAll spare + 1
  | .agg parts => uptoBulkAll parts + 1
  | .iface _ d => uptoBulk d + 1
  | .map entries => uptoBulkEntries entries + 1
  | .held _ => 1
def uptoBulkAll {H : Type} : List (DataW H) → Nat
  | [] => 0
  | d :: r => uptoBulk d + uptoBulkAll r
def uptoBulkEntries {H : Type} : List (Lit × DataW H) → Nat
  | [] => 0
  | x :: r => uptoBulkEntry x + uptoBulkEntries r
def uptoBulkEntry {H : Type} : Lit × DataW H → Nat
  | (.string bytes, d) => bytes.length + uptoBulk d + 1
  | (_, d) => uptoBulk d + 1
 end
def uptoSmall : (H : Type) → List (DataW H) → Bool := fun _ ds => decide (uptoBulkAll ds ≤ 1048576)
def OpenSpec.upto (s : _root_.Go.ChangeSpec) : _root_.Go.OpenSpec := { _root_.Go.OpenSpec.ofChange s with cond := some uptoSmall }

/-- 'cashbooklaw06.PageSeals', WHERE WHAT IT READS IS OF BULK AT MOST 1048576: true; the input reads as it did. -/
def pageSealsUptoRow : OpenClaim := { program := "ytnhihkngelckoaadoor", sum := "10101bd2f2d066656c3997b174f88854e12de421be748b3759d9b6d2b334336c", func := "cashbook/cashbooklaw06.PageSeals", spec := "pageSeals", named := ["cashbook/crc.halves"], apart := false, laid := [("cashbook/crc.halves", laid_cashbook_crc_halves)], narrowed := true }
def PageSealsUptoSaid : Prop := pageSealsUptoRow.holds Tryd.pinned (OpenSpec.upto pageSealsSpec)

/-- 'cashbooklaw06.PageOpens', WHERE WHAT IT READS IS OF BULK AT MOST 1048576: true; the input reads as it did. -/
def pageOpensUptoRow : OpenClaim := { program := "ytnhihkngelckoaadoor", sum := "10101bd2f2d066656c3997b174f88854e12de421be748b3759d9b6d2b334336c", func := "cashbook/cashbooklaw06.PageOpens", spec := "pageOpens", named := ["cashbook/crc.halves"], apart := false, laid := [("cashbook/crc.halves", laid_cashbook_crc_halves)], narrowed := true }
def PageOpensUptoSaid : Prop := pageOpensUptoRow.holds Tryd.pinned (OpenSpec.upto pageOpensSpec)

/-- 'cashbooklaw06.PageTold', WHERE WHAT IT READS IS OF BULK AT MOST 1048576: true; the input reads as it did. -/
def pageToldUptoRow : OpenClaim := { program := "ytnhihkngelckoaadoor", sum := "10101bd2f2d066656c3997b174f88854e12de421be748b3759d9b6d2b334336c", func := "cashbook/cashbooklaw06.PageTold", spec := "pageTold", named := ["cashbook/crc.halves"], apart := false, laid := [("cashbook/crc.halves", laid_cashbook_crc_halves)], narrowed := true }
def PageToldUptoSaid : Prop := pageToldUptoRow.holds Tryd.pinned (OpenSpec.upto pageToldSpec)

/-- 'cashbooklaw06.PageMoved', WHERE WHAT IT READS IS OF BULK AT MOST 1048576: true; the input reads as it did. -/
def pageMovedUptoRow : OpenClaim := { program := "ytnhihkngelckoaadoor", sum := "10101bd2f2d066656c3997b174f88854e12de421be748b3759d9b6d2b334336c", func := "cashbook/cashbooklaw06.PageMoved", spec := "pageMoved", named := ["cashbook/crc.halves"], apart := false, laid := [("cashbook/crc.halves", laid_cashbook_crc_halves)], narrowed := true }
def PageMovedUptoSaid : Prop := pageMovedUptoRow.holds Tryd.pinned (OpenSpec.upto pageMovedSpec)

end Rows
end Go.Proofs.YtnhihkngelckoaaDoor
