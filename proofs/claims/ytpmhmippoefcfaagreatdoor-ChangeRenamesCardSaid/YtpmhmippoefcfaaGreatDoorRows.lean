/-
  NARROWER THAN 'FOR EVERY INPUT', by the rows' own cells (each row's printed sentence says how): ChangeEnters: laid · ChangeDrops: laid · ChangeRenames: laid · ChangeRight: laid · ChangeBack: laid · ChangeThere: laid · ChangeMoves: laid.
  DERIVED. THE GIVEN ROWS OF THIS SEAT. 7 by the template 'for every input the law returns true; each argument reads behind the call as it read before'; 0 by the template 'total and deterministic' (their statements: YtpmhmippoefcfaaGreatDoorTotals.lean).
  GIVEN WITH THE SEED: the statements are not yours to turn. If you find one false, say at which input.
  Laid BY PROGRAM, IN A SANDBOX (cutbox-rows.mjs): the forced cells as the released guide's own fill.sh prints them over the translation 22fc31f2f2014db2… (all of the seat's roots in one cut). By AI agents, Wed Nov 11 2026. No macro, syntax, notation, axiom, sorry.
-/
import Derived.Test.YtpmhmippoefcfaaGreatDoorChecked
import GoSem.Claim
import GoSem.ClaimJoined
import GoSem.ClaimMapViews
import Derived.JoinedTies
import Derived.KernelRfl
namespace Go.Proofs.YtpmhmippoefcfaaGreatDoor
/- THE CELL 'sum', in the pinned program and in every row, IS THE sha256 OF THE DUMP (.gsa) THAT YtpmhmippoefcfaaGreatDoorProg.lean LOADS. Nothing in Lean hashes anything: it is a label: what it is worth is what the hold of that sum in a sandbox is worth. -/
noncomputable def Tryz.pinned : Pinned := { name := "ytpmhmippoefcfaagreatdoor", sum := "22fc31f2f2014db236be158f18c2b091b5489732a11d6c437b34efe725696083", checked := Tryz.checked }
namespace Rows
def none {H : Type} : Left H := { results := [], args := [] }

/- WHAT THE LISTED PACKAGE-LEVEL VARIABLES READ AS WHEN THE CALL BEGINS. Each datum BY PROGRAM (the guide's laid-datum.mjs) off the statement by which the dump's own 'gosem.cut.vars' lays the variable. In a bare row this is a premise. The card (YtpmhmippoefcfaaGreatDoorCards.lean) ties it to the program's text. -/
def laid_errors_errorType {H : Type} : DataW H := .iface "internal/reflectlite.rtype" (.agg [.ptr (.lit (.string [101, 114, 114, 111, 114]))])
def laid_flagstone_change_errArg {H : Type} : DataW H := .iface "*errors.errorString" (.ptr (.agg [.lit (.string [97, 32, 112, 97, 114, 116, 32, 116, 104, 97, 116, 32, 105, 115, 32, 110, 111, 32, 110, 97, 109, 101])]))
def laid_flagstone_change_errNone {H : Type} : DataW H := .iface "*errors.errorString" (.ptr (.agg [.lit (.string [110, 111, 116, 104, 105, 110, 103, 32, 116, 104, 101, 114, 101, 44, 32, 111, 114, 32, 110, 111, 98, 111, 100, 121, 32, 110, 97, 109, 101, 115, 32, 105, 116, 32, 97, 110, 121, 32, 109, 111, 114, 101])]))
def laid_flagstone_change_errExists {H : Type} : DataW H := .iface "*errors.errorString" (.ptr (.agg [.lit (.string [97, 32, 110, 97, 109, 101, 32, 116, 104, 97, 116, 32, 105, 115, 32, 116, 97, 107, 101, 110])]))
def laid_flagstone_change_errNotDir {H : Type} : DataW H := .iface "*errors.errorString" (.ptr (.agg [.lit (.string [110, 111, 32, 100, 105, 114, 101, 99, 116, 111, 114, 121])]))
def laid_flagstone_change_errIsDir {H : Type} : DataW H := .iface "*errors.errorString" (.ptr (.agg [.lit (.string [97, 32, 100, 105, 114, 101, 99, 116, 111, 114, 121])]))
def laid_flagstone_change_errFull {H : Type} : DataW H := .iface "*errors.errorString" (.ptr (.agg [.lit (.string [97, 32, 100, 105, 114, 101, 99, 116, 111, 114, 121, 32, 116, 104, 97, 116, 32, 104, 97, 115, 32, 110, 97, 109, 101, 115])]))
def laid_flagstone_change_errAccess {H : Type} : DataW H := .iface "*errors.errorString" (.ptr (.agg [.lit (.string [110, 111, 116, 32, 97, 108, 108, 111, 119, 101, 100])]))
def laid_flagstone_change_errLong {H : Type} : DataW H := .iface "*errors.errorString" (.ptr (.agg [.lit (.string [97, 32, 116, 101, 120, 116, 32, 116, 104, 97, 116, 32, 105, 115, 32, 116, 111, 111, 32, 108, 111, 110, 103])]))
def laid_flagstone_change_errLinks {H : Type} : DataW H := .iface "*errors.errorString" (.ptr (.agg [.lit (.string [116, 111, 111, 32, 109, 97, 110, 121, 32, 110, 97, 109, 101, 115])]))
def laid_flagstone_change_errInto {H : Type} : DataW H := .iface "*errors.errorString" (.ptr (.agg [.lit (.string [97, 32, 100, 105, 114, 101, 99, 116, 111, 114, 121, 32, 105, 110, 116, 111, 32, 105, 116, 115, 101, 108, 102])]))

/-- 'flagstonelaw08.ChangeEnters': WHATEVER THE INPUT: true; the input reads as it did. -/
def changeEntersSpec : ChangeSpec := { name := "changeEnters", fn := fun _ => fun
  | [d1, d2, d3, d4, d5] => { results := [.lit (.bool true)], args := [d1, d2, d3, d4, d5] }
  | _ => none }
def changeEntersRow : OpenClaim := { program := "ytpmhmippoefcfaagreatdoor", sum := "22fc31f2f2014db236be158f18c2b091b5489732a11d6c437b34efe725696083", func := "flagstone/flagstonelaw08.ChangeEnters", spec := "changeEnters", inPlace := ["internal/bytealg.IndexByteString", "internal/reflectlite.ValueOf", "(internal/reflectlite.Value).Type", "(internal/reflectlite.Value).IsNil", "internal/reflectlite.TypeOf", "(internal/reflectlite.Value).Elem", "(internal/reflectlite.Value).Set"], unfollowed := true, recurses := true, named := ["errors.errorType", "flagstone/change.errExists", "flagstone/change.errIsDir", "flagstone/change.errNotDir", "flagstone/change.errNone", "flagstone/change.errAccess", "flagstone/change.errArg", "flagstone/change.errFull", "flagstone/change.errLong", "flagstone/change.errLinks", "flagstone/change.errInto"], apart := false, laid := [("errors.errorType", laid_errors_errorType), ("flagstone/change.errArg", laid_flagstone_change_errArg), ("flagstone/change.errNone", laid_flagstone_change_errNone), ("flagstone/change.errExists", laid_flagstone_change_errExists), ("flagstone/change.errNotDir", laid_flagstone_change_errNotDir), ("flagstone/change.errIsDir", laid_flagstone_change_errIsDir), ("flagstone/change.errFull", laid_flagstone_change_errFull), ("flagstone/change.errAccess", laid_flagstone_change_errAccess), ("flagstone/change.errLong", laid_flagstone_change_errLong), ("flagstone/change.errLinks", laid_flagstone_change_errLinks), ("flagstone/change.errInto", laid_flagstone_change_errInto)] }
def ChangeEntersSaid : Prop := changeEntersRow.holds Tryz.pinned (OpenSpec.ofChange changeEntersSpec)

/-- ITS FALSE NEIGHBOUR: 'it returns false'. Refute it at one input. -/
def changeEntersWrong : ChangeSpec := { name := "changeEnters", fn := fun _ => fun
  | [d1, d2, d3, d4, d5] => { results := [.lit (.bool false)], args := [d1, d2, d3, d4, d5] }
  | _ => none }
def ChangeEntersWrongFalsely : Prop := changeEntersRow.holds Tryz.pinned (OpenSpec.ofChange changeEntersWrong)

/-- 'flagstonelaw08.ChangeDrops': WHATEVER THE INPUT: true; the input reads as it did. -/
def changeDropsSpec : ChangeSpec := { name := "changeDrops", fn := fun _ => fun
  | [d1, d2, d3, d4, d5] => { results := [.lit (.bool true)], args := [d1, d2, d3, d4, d5] }
  | _ => none }
def changeDropsRow : OpenClaim := { program := "ytpmhmippoefcfaagreatdoor", sum := "22fc31f2f2014db236be158f18c2b091b5489732a11d6c437b34efe725696083", func := "flagstone/flagstonelaw08.ChangeDrops", spec := "changeDrops", inPlace := ["internal/bytealg.IndexByteString", "internal/reflectlite.ValueOf", "(internal/reflectlite.Value).Type", "(internal/reflectlite.Value).IsNil", "internal/reflectlite.TypeOf", "(internal/reflectlite.Value).Elem", "(internal/reflectlite.Value).Set"], unfollowed := true, recurses := true, named := ["errors.errorType", "flagstone/change.errExists", "flagstone/change.errIsDir", "flagstone/change.errNotDir", "flagstone/change.errNone", "flagstone/change.errAccess", "flagstone/change.errArg", "flagstone/change.errFull", "flagstone/change.errLong", "flagstone/change.errLinks", "flagstone/change.errInto"], apart := false, laid := [("errors.errorType", laid_errors_errorType), ("flagstone/change.errArg", laid_flagstone_change_errArg), ("flagstone/change.errNone", laid_flagstone_change_errNone), ("flagstone/change.errExists", laid_flagstone_change_errExists), ("flagstone/change.errNotDir", laid_flagstone_change_errNotDir), ("flagstone/change.errIsDir", laid_flagstone_change_errIsDir), ("flagstone/change.errFull", laid_flagstone_change_errFull), ("flagstone/change.errAccess", laid_flagstone_change_errAccess), ("flagstone/change.errLong", laid_flagstone_change_errLong), ("flagstone/change.errLinks", laid_flagstone_change_errLinks), ("flagstone/change.errInto", laid_flagstone_change_errInto)] }
def ChangeDropsSaid : Prop := changeDropsRow.holds Tryz.pinned (OpenSpec.ofChange changeDropsSpec)

/-- ITS FALSE NEIGHBOUR: 'it returns false'. Refute it at one input. -/
def changeDropsWrong : ChangeSpec := { name := "changeDrops", fn := fun _ => fun
  | [d1, d2, d3, d4, d5] => { results := [.lit (.bool false)], args := [d1, d2, d3, d4, d5] }
  | _ => none }
def ChangeDropsWrongFalsely : Prop := changeDropsRow.holds Tryz.pinned (OpenSpec.ofChange changeDropsWrong)

/-- 'flagstonelaw08.ChangeRenames': WHATEVER THE INPUT: true; the input reads as it did. -/
def changeRenamesSpec : ChangeSpec := { name := "changeRenames", fn := fun _ => fun
  | [d1, d2, d3, d4, d5] => { results := [.lit (.bool true)], args := [d1, d2, d3, d4, d5] }
  | _ => none }
def changeRenamesRow : OpenClaim := { program := "ytpmhmippoefcfaagreatdoor", sum := "22fc31f2f2014db236be158f18c2b091b5489732a11d6c437b34efe725696083", func := "flagstone/flagstonelaw08.ChangeRenames", spec := "changeRenames", inPlace := ["internal/bytealg.IndexByteString", "internal/reflectlite.ValueOf", "(internal/reflectlite.Value).Type", "(internal/reflectlite.Value).IsNil", "internal/reflectlite.TypeOf", "(internal/reflectlite.Value).Elem", "(internal/reflectlite.Value).Set"], unfollowed := true, recurses := true, named := ["errors.errorType", "flagstone/change.errExists", "flagstone/change.errIsDir", "flagstone/change.errNotDir", "flagstone/change.errNone", "flagstone/change.errAccess", "flagstone/change.errArg", "flagstone/change.errFull", "flagstone/change.errLong", "flagstone/change.errLinks", "flagstone/change.errInto"], apart := false, laid := [("errors.errorType", laid_errors_errorType), ("flagstone/change.errArg", laid_flagstone_change_errArg), ("flagstone/change.errNone", laid_flagstone_change_errNone), ("flagstone/change.errExists", laid_flagstone_change_errExists), ("flagstone/change.errNotDir", laid_flagstone_change_errNotDir), ("flagstone/change.errIsDir", laid_flagstone_change_errIsDir), ("flagstone/change.errFull", laid_flagstone_change_errFull), ("flagstone/change.errAccess", laid_flagstone_change_errAccess), ("flagstone/change.errLong", laid_flagstone_change_errLong), ("flagstone/change.errLinks", laid_flagstone_change_errLinks), ("flagstone/change.errInto", laid_flagstone_change_errInto)] }
def ChangeRenamesSaid : Prop := changeRenamesRow.holds Tryz.pinned (OpenSpec.ofChange changeRenamesSpec)

/-- ITS FALSE NEIGHBOUR: 'it returns false'. Refute it at one input. -/
def changeRenamesWrong : ChangeSpec := { name := "changeRenames", fn := fun _ => fun
  | [d1, d2, d3, d4, d5] => { results := [.lit (.bool false)], args := [d1, d2, d3, d4, d5] }
  | _ => none }
def ChangeRenamesWrongFalsely : Prop := changeRenamesRow.holds Tryz.pinned (OpenSpec.ofChange changeRenamesWrong)

/-- 'flagstonelaw08.ChangeRight': WHATEVER THE INPUT: true; the input reads as it did. -/
def changeRightSpec : ChangeSpec := { name := "changeRight", fn := fun _ => fun
  | [d1, d2, d3, d4, d5, d6] => { results := [.lit (.bool true)], args := [d1, d2, d3, d4, d5, d6] }
  | _ => none }
def changeRightRow : OpenClaim := { program := "ytpmhmippoefcfaagreatdoor", sum := "22fc31f2f2014db236be158f18c2b091b5489732a11d6c437b34efe725696083", func := "flagstone/flagstonelaw08.ChangeRight", spec := "changeRight", inPlace := ["internal/bytealg.IndexByteString", "internal/reflectlite.ValueOf", "(internal/reflectlite.Value).Type", "(internal/reflectlite.Value).IsNil", "internal/reflectlite.TypeOf", "(internal/reflectlite.Value).Elem", "(internal/reflectlite.Value).Set"], unfollowed := true, recurses := true, named := ["errors.errorType", "flagstone/change.errExists", "flagstone/change.errIsDir", "flagstone/change.errNotDir", "flagstone/change.errNone", "flagstone/change.errAccess", "flagstone/change.errArg", "flagstone/change.errFull", "flagstone/change.errLong", "flagstone/change.errLinks", "flagstone/change.errInto"], apart := false, laid := [("errors.errorType", laid_errors_errorType), ("flagstone/change.errArg", laid_flagstone_change_errArg), ("flagstone/change.errNone", laid_flagstone_change_errNone), ("flagstone/change.errExists", laid_flagstone_change_errExists), ("flagstone/change.errNotDir", laid_flagstone_change_errNotDir), ("flagstone/change.errIsDir", laid_flagstone_change_errIsDir), ("flagstone/change.errFull", laid_flagstone_change_errFull), ("flagstone/change.errAccess", laid_flagstone_change_errAccess), ("flagstone/change.errLong", laid_flagstone_change_errLong), ("flagstone/change.errLinks", laid_flagstone_change_errLinks), ("flagstone/change.errInto", laid_flagstone_change_errInto)] }
def ChangeRightSaid : Prop := changeRightRow.holds Tryz.pinned (OpenSpec.ofChange changeRightSpec)

/-- ITS FALSE NEIGHBOUR: 'it returns false'. Refute it at one input. -/
def changeRightWrong : ChangeSpec := { name := "changeRight", fn := fun _ => fun
  | [d1, d2, d3, d4, d5, d6] => { results := [.lit (.bool false)], args := [d1, d2, d3, d4, d5, d6] }
  | _ => none }
def ChangeRightWrongFalsely : Prop := changeRightRow.holds Tryz.pinned (OpenSpec.ofChange changeRightWrong)

/-- 'flagstonelaw08.ChangeBack': WHATEVER THE INPUT: true; the input reads as it did. -/
def changeBackSpec : ChangeSpec := { name := "changeBack", fn := fun _ => fun
  | [d1, d2, d3, d4] => { results := [.lit (.bool true)], args := [d1, d2, d3, d4] }
  | _ => none }
def changeBackRow : OpenClaim := { program := "ytpmhmippoefcfaagreatdoor", sum := "22fc31f2f2014db236be158f18c2b091b5489732a11d6c437b34efe725696083", func := "flagstone/flagstonelaw08.ChangeBack", spec := "changeBack", inPlace := ["internal/bytealg.IndexByteString", "internal/reflectlite.ValueOf", "(internal/reflectlite.Value).Type", "(internal/reflectlite.Value).IsNil", "internal/reflectlite.TypeOf", "(internal/reflectlite.Value).Elem", "(internal/reflectlite.Value).Set"], unfollowed := true, recurses := true, named := ["errors.errorType", "flagstone/change.errExists", "flagstone/change.errIsDir", "flagstone/change.errNotDir", "flagstone/change.errNone", "flagstone/change.errAccess", "flagstone/change.errArg", "flagstone/change.errFull", "flagstone/change.errLong", "flagstone/change.errLinks", "flagstone/change.errInto"], apart := false, laid := [("errors.errorType", laid_errors_errorType), ("flagstone/change.errArg", laid_flagstone_change_errArg), ("flagstone/change.errNone", laid_flagstone_change_errNone), ("flagstone/change.errExists", laid_flagstone_change_errExists), ("flagstone/change.errNotDir", laid_flagstone_change_errNotDir), ("flagstone/change.errIsDir", laid_flagstone_change_errIsDir), ("flagstone/change.errFull", laid_flagstone_change_errFull), ("flagstone/change.errAccess", laid_flagstone_change_errAccess), ("flagstone/change.errLong", laid_flagstone_change_errLong), ("flagstone/change.errLinks", laid_flagstone_change_errLinks), ("flagstone/change.errInto", laid_flagstone_change_errInto)] }
def ChangeBackSaid : Prop := changeBackRow.holds Tryz.pinned (OpenSpec.ofChange changeBackSpec)

/-- ITS FALSE NEIGHBOUR: 'it returns false'. Refute it at one input. -/
def changeBackWrong : ChangeSpec := { name := "changeBack", fn := fun _ => fun
  | [d1, d2, d3, d4] => { results := [.lit (.bool false)], args := [d1, d2, d3, d4] }
  | _ => none }
def ChangeBackWrongFalsely : Prop := changeBackRow.holds Tryz.pinned (OpenSpec.ofChange changeBackWrong)

/-- 'flagstonelaw08.ChangeThere': WHATEVER THE INPUT: true; the input reads as it did. -/
def changeThereSpec : ChangeSpec := { name := "changeThere", fn := fun _ => fun
  | [d1, d2, d3, d4] => { results := [.lit (.bool true)], args := [d1, d2, d3, d4] }
  | _ => none }
def changeThereRow : OpenClaim := { program := "ytpmhmippoefcfaagreatdoor", sum := "22fc31f2f2014db236be158f18c2b091b5489732a11d6c437b34efe725696083", func := "flagstone/flagstonelaw08.ChangeThere", spec := "changeThere", inPlace := ["internal/bytealg.IndexByteString", "internal/reflectlite.ValueOf", "(internal/reflectlite.Value).Type", "(internal/reflectlite.Value).IsNil", "internal/reflectlite.TypeOf", "(internal/reflectlite.Value).Elem", "(internal/reflectlite.Value).Set"], unfollowed := true, recurses := true, named := ["errors.errorType", "flagstone/change.errExists", "flagstone/change.errIsDir", "flagstone/change.errNotDir", "flagstone/change.errNone", "flagstone/change.errAccess", "flagstone/change.errArg", "flagstone/change.errFull", "flagstone/change.errLong", "flagstone/change.errLinks", "flagstone/change.errInto"], apart := false, laid := [("errors.errorType", laid_errors_errorType), ("flagstone/change.errArg", laid_flagstone_change_errArg), ("flagstone/change.errNone", laid_flagstone_change_errNone), ("flagstone/change.errExists", laid_flagstone_change_errExists), ("flagstone/change.errNotDir", laid_flagstone_change_errNotDir), ("flagstone/change.errIsDir", laid_flagstone_change_errIsDir), ("flagstone/change.errFull", laid_flagstone_change_errFull), ("flagstone/change.errAccess", laid_flagstone_change_errAccess), ("flagstone/change.errLong", laid_flagstone_change_errLong), ("flagstone/change.errLinks", laid_flagstone_change_errLinks), ("flagstone/change.errInto", laid_flagstone_change_errInto)] }
def ChangeThereSaid : Prop := changeThereRow.holds Tryz.pinned (OpenSpec.ofChange changeThereSpec)

/-- ITS FALSE NEIGHBOUR: 'it returns false'. Refute it at one input. -/
def changeThereWrong : ChangeSpec := { name := "changeThere", fn := fun _ => fun
  | [d1, d2, d3, d4] => { results := [.lit (.bool false)], args := [d1, d2, d3, d4] }
  | _ => none }
def ChangeThereWrongFalsely : Prop := changeThereRow.holds Tryz.pinned (OpenSpec.ofChange changeThereWrong)

/-- 'flagstonelaw08.ChangeMoves': WHATEVER THE INPUT: true; the input reads as it did. -/
def changeMovesSpec : ChangeSpec := { name := "changeMoves", fn := fun _ => fun
  | [d1, d2, d3, d4] => { results := [.lit (.bool true)], args := [d1, d2, d3, d4] }
  | _ => none }
def changeMovesRow : OpenClaim := { program := "ytpmhmippoefcfaagreatdoor", sum := "22fc31f2f2014db236be158f18c2b091b5489732a11d6c437b34efe725696083", func := "flagstone/flagstonelaw08.ChangeMoves", spec := "changeMoves", inPlace := ["internal/bytealg.IndexByteString", "internal/reflectlite.ValueOf", "(internal/reflectlite.Value).Type", "(internal/reflectlite.Value).IsNil", "internal/reflectlite.TypeOf", "(internal/reflectlite.Value).Elem", "(internal/reflectlite.Value).Set"], unfollowed := true, recurses := true, named := ["errors.errorType", "flagstone/change.errExists", "flagstone/change.errIsDir", "flagstone/change.errNotDir", "flagstone/change.errNone", "flagstone/change.errAccess", "flagstone/change.errArg", "flagstone/change.errFull", "flagstone/change.errLong", "flagstone/change.errLinks", "flagstone/change.errInto"], apart := false, laid := [("errors.errorType", laid_errors_errorType), ("flagstone/change.errArg", laid_flagstone_change_errArg), ("flagstone/change.errNone", laid_flagstone_change_errNone), ("flagstone/change.errExists", laid_flagstone_change_errExists), ("flagstone/change.errNotDir", laid_flagstone_change_errNotDir), ("flagstone/change.errIsDir", laid_flagstone_change_errIsDir), ("flagstone/change.errFull", laid_flagstone_change_errFull), ("flagstone/change.errAccess", laid_flagstone_change_errAccess), ("flagstone/change.errLong", laid_flagstone_change_errLong), ("flagstone/change.errLinks", laid_flagstone_change_errLinks), ("flagstone/change.errInto", laid_flagstone_change_errInto)] }
def ChangeMovesSaid : Prop := changeMovesRow.holds Tryz.pinned (OpenSpec.ofChange changeMovesSpec)

/-- ITS FALSE NEIGHBOUR: 'it returns false'. Refute it at one input. -/
def changeMovesWrong : ChangeSpec := { name := "changeMoves", fn := fun _ => fun
  | [d1, d2, d3, d4] => { results := [.lit (.bool false)], args := [d1, d2, d3, d4] }
  | _ => none }
def ChangeMovesWrongFalsely : Prop := changeMovesRow.holds Tryz.pinned (OpenSpec.ofChange changeMovesWrong)

/- THE SECOND FORM. 'bulk': how many values and letters a reading holds, each counted each time it is reached (what is shared counts as often as it is met; a slice's spare places count too). A statement '..UptoSaid' is the law's where the arguments, and the package variables that the reading takes, are together of bulk at most 1048576: NARROWER than '..Said'. Prove '..Said' where nothing that the law and all that it calls make is longer than what came in: it says more and counts as full. Else prove '..UptoSaid'. A law counts once. -/
mutual
def uptoBulk {H : Type} : DataW H → Nat
  | .lit (.string bytes) => bytes.length + 1
  | .lit _ => 1
  | .nil => 1
  | .ptr d => uptoBulk d + 1
  | .slice elems spare => uptoBulkAll elems + uptoBulkAll spare + 1
  | .agg parts => uptoBulkAll parts + 1
  | .iface _ d => uptoBulk d + 1
  | .map entries => uptoBulkEntries entries + 1
  | .held _ => 1
def uptoBulkAll {H : Type} : List (DataW H) → Nat
  | [] => 0
  | d :: r => uptoBulk d + uptoBulkAll r
def uptoBulkEntries {H : Type} : List (Lit × DataW H) → Nat
  | [] => 0
  | x :: r => uptoBulkEntry x + uptoBulkEntries r
def uptoBulkEntry {H : Type} : Lit × DataW H → Nat
  | (.string bytes, d) => bytes.length + uptoBulk d + 1
  | (_, d) => uptoBulk d + 1
 end
def uptoSmall : (H : Type) → List (DataW H) → Bool := fun _ ds => decide (uptoBulkAll ds ≤ 1048576)
def OpenSpec.upto (s : _root_.Go.ChangeSpec) : _root_.Go.OpenSpec := { _root_.Go.OpenSpec.ofChange s with cond := some uptoSmall }

/-- 'flagstonelaw08.ChangeEnters', WHERE WHAT IT READS IS OF BULK AT MOST 1048576: true; the input reads as it did. -/
def changeEntersUptoRow : OpenClaim := { program := "ytpmhmippoefcfaagreatdoor", sum := "22fc31f2f2014db236be158f18c2b091b5489732a11d6c437b34efe725696083", func := "flagstone/flagstonelaw08.ChangeEnters", spec := "changeEnters", inPlace := ["internal/bytealg.IndexByteString", "internal/reflectlite.ValueOf", "(internal/reflectlite.Value).Type", "(internal/reflectlite.Value).IsNil", "internal/reflectlite.TypeOf", "(internal/reflectlite.Value).Elem", "(internal/reflectlite.Value).Set"], unfollowed := true, recurses := true, named := ["errors.errorType", "flagstone/change.errExists", "flagstone/change.errIsDir", "flagstone/change.errNotDir", "flagstone/change.errNone", "flagstone/change.errAccess", "flagstone/change.errArg", "flagstone/change.errFull", "flagstone/change.errLong", "flagstone/change.errLinks", "flagstone/change.errInto"], apart := false, laid := [("errors.errorType", laid_errors_errorType), ("flagstone/change.errArg", laid_flagstone_change_errArg), ("flagstone/change.errNone", laid_flagstone_change_errNone), ("flagstone/change.errExists", laid_flagstone_change_errExists), ("flagstone/change.errNotDir", laid_flagstone_change_errNotDir), ("flagstone/change.errIsDir", laid_flagstone_change_errIsDir), ("flagstone/change.errFull", laid_flagstone_change_errFull), ("flagstone/change.errAccess", laid_flagstone_change_errAccess), ("flagstone/change.errLong", laid_flagstone_change_errLong), ("flagstone/change.errLinks", laid_flagstone_change_errLinks), ("flagstone/change.errInto", laid_flagstone_change_errInto)], narrowed := true }
def ChangeEntersUptoSaid : Prop := changeEntersUptoRow.holds Tryz.pinned (OpenSpec.upto changeEntersSpec)

/-- 'flagstonelaw08.ChangeDrops', WHERE WHAT IT READS IS OF BULK AT MOST 1048576: true; the input reads as it did. -/
def changeDropsUptoRow : OpenClaim := { program := "ytpmhmippoefcfaagreatdoor", sum := "22fc31f2f2014db236be158f18c2b091b5489732a11d6c437b34efe725696083", func := "flagstone/flagstonelaw08.ChangeDrops", spec := "changeDrops", inPlace := ["internal/bytealg.IndexByteString", "internal/reflectlite.ValueOf", "(internal/reflectlite.Value).Type", "(internal/reflectlite.Value).IsNil", "internal/reflectlite.TypeOf", "(internal/reflectlite.Value).Elem", "(internal/reflectlite.Value).Set"], unfollowed := true, recurses := true, named := ["errors.errorType", "flagstone/change.errExists", "flagstone/change.errIsDir", "flagstone/change.errNotDir", "flagstone/change.errNone", "flagstone/change.errAccess", "flagstone/change.errArg", "flagstone/change.errFull", "flagstone/change.errLong", "flagstone/change.errLinks", "flagstone/change.errInto"], apart := false, laid := [("errors.errorType", laid_errors_errorType), ("flagstone/change.errArg", laid_flagstone_change_errArg), ("flagstone/change.errNone", laid_flagstone_change_errNone), ("flagstone/change.errExists", laid_flagstone_change_errExists), ("flagstone/change.errNotDir", laid_flagstone_change_errNotDir), ("flagstone/change.errIsDir", laid_flagstone_change_errIsDir), ("flagstone/change.errFull", laid_flagstone_change_errFull), ("flagstone/change.errAccess", laid_flagstone_change_errAccess), ("flagstone/change.errLong", laid_flagstone_change_errLong), ("flagstone/change.errLinks", laid_flagstone_change_errLinks), ("flagstone/change.errInto", laid_flagstone_change_errInto)], narrowed := true }
def ChangeDropsUptoSaid : Prop := changeDropsUptoRow.holds Tryz.pinned (OpenSpec.upto changeDropsSpec)

/-- 'flagstonelaw08.ChangeRenames', WHERE WHAT IT READS IS OF BULK AT MOST 1048576: true; the input reads as it did. -/
def changeRenamesUptoRow : OpenClaim := { program := "ytpmhmippoefcfaagreatdoor", sum := "22fc31f2f2014db236be158f18c2b091b5489732a11d6c437b34efe725696083", func := "flagstone/flagstonelaw08.ChangeRenames", spec := "changeRenames", inPlace := ["internal/bytealg.IndexByteString", "internal/reflectlite.ValueOf", "(internal/reflectlite.Value).Type", "(internal/reflectlite.Value).IsNil", "internal/reflectlite.TypeOf", "(internal/reflectlite.Value).Elem", "(internal/reflectlite.Value).Set"], unfollowed := true, recurses := true, named := ["errors.errorType", "flagstone/change.errExists", "flagstone/change.errIsDir", "flagstone/change.errNotDir", "flagstone/change.errNone", "flagstone/change.errAccess", "flagstone/change.errArg", "flagstone/change.errFull", "flagstone/change.errLong", "flagstone/change.errLinks", "flagstone/change.errInto"], apart := false, laid := [("errors.errorType", laid_errors_errorType), ("flagstone/change.errArg", laid_flagstone_change_errArg), ("flagstone/change.errNone", laid_flagstone_change_errNone), ("flagstone/change.errExists", laid_flagstone_change_errExists), ("flagstone/change.errNotDir", laid_flagstone_change_errNotDir), ("flagstone/change.errIsDir", laid_flagstone_change_errIsDir), ("flagstone/change.errFull", laid_flagstone_change_errFull), ("flagstone/change.errAccess", laid_flagstone_change_errAccess), ("flagstone/change.errLong", laid_flagstone_change_errLong), ("flagstone/change.errLinks", laid_flagstone_change_errLinks), ("flagstone/change.errInto", laid_flagstone_change_errInto)], narrowed := true }
def ChangeRenamesUptoSaid : Prop := changeRenamesUptoRow.holds Tryz.pinned (OpenSpec.upto changeRenamesSpec)

/-- 'flagstonelaw08.ChangeRight', WHERE WHAT IT READS IS OF BULK AT MOST 1048576: true; the input reads as it did. -/
def changeRightUptoRow : OpenClaim := { program := "ytpmhmippoefcfaagreatdoor", sum := "22fc31f2f2014db236be158f18c2b091b5489732a11d6c437b34efe725696083", func := "flagstone/flagstonelaw08.ChangeRight", spec := "changeRight", inPlace := ["internal/bytealg.IndexByteString", "internal/reflectlite.ValueOf", "(internal/reflectlite.Value).Type", "(internal/reflectlite.Value).IsNil", "internal/reflectlite.TypeOf", "(internal/reflectlite.Value).Elem", "(internal/reflectlite.Value).Set"], unfollowed := true, recurses := true, named := ["errors.errorType", "flagstone/change.errExists", "flagstone/change.errIsDir", "flagstone/change.errNotDir", "flagstone/change.errNone", "flagstone/change.errAccess", "flagstone/change.errArg", "flagstone/change.errFull", "flagstone/change.errLong", "flagstone/change.errLinks", "flagstone/change.errInto"], apart := false, laid := [("errors.errorType", laid_errors_errorType), ("flagstone/change.errArg", laid_flagstone_change_errArg), ("flagstone/change.errNone", laid_flagstone_change_errNone), ("flagstone/change.errExists", laid_flagstone_change_errExists), ("flagstone/change.errNotDir", laid_flagstone_change_errNotDir), ("flagstone/change.errIsDir", laid_flagstone_change_errIsDir), ("flagstone/change.errFull", laid_flagstone_change_errFull), ("flagstone/change.errAccess", laid_flagstone_change_errAccess), ("flagstone/change.errLong", laid_flagstone_change_errLong), ("flagstone/change.errLinks", laid_flagstone_change_errLinks), ("flagstone/change.errInto", laid_flagstone_change_errInto)], narrowed := true }
def ChangeRightUptoSaid : Prop := changeRightUptoRow.holds Tryz.pinned (OpenSpec.upto changeRightSpec)

/-- 'flagstonelaw08.ChangeBack', WHERE WHAT IT READS IS OF BULK AT MOST 1048576: true; the input reads as it did. -/
def changeBackUptoRow : OpenClaim := { program := "ytpmhmippoefcfaagreatdoor", sum := "22fc31f2f2014db236be158f18c2b091b5489732a11d6c437b34efe725696083", func := "flagstone/flagstonelaw08.ChangeBack", spec := "changeBack", inPlace := ["internal/bytealg.IndexByteString", "internal/reflectlite.ValueOf", "(internal/reflectlite.Value).Type", "(internal/reflectlite.Value).IsNil", "internal/reflectlite.TypeOf", "(internal/reflectlite.Value).Elem", "(internal/reflectlite.Value).Set"], unfollowed := true, recurses := true, named := ["errors.errorType", "flagstone/change.errExists", "flagstone/change.errIsDir", "flagstone/change.errNotDir", "flagstone/change.errNone", "flagstone/change.errAccess", "flagstone/change.errArg", "flagstone/change.errFull", "flagstone/change.errLong", "flagstone/change.errLinks", "flagstone/change.errInto"], apart := false, laid := [("errors.errorType", laid_errors_errorType), ("flagstone/change.errArg", laid_flagstone_change_errArg), ("flagstone/change.errNone", laid_flagstone_change_errNone), ("flagstone/change.errExists", laid_flagstone_change_errExists), ("flagstone/change.errNotDir", laid_flagstone_change_errNotDir), ("flagstone/change.errIsDir", laid_flagstone_change_errIsDir), ("flagstone/change.errFull", laid_flagstone_change_errFull), ("flagstone/change.errAccess", laid_flagstone_change_errAccess), ("flagstone/change.errLong", laid_flagstone_change_errLong), ("flagstone/change.errLinks", laid_flagstone_change_errLinks), ("flagstone/change.errInto", laid_flagstone_change_errInto)], narrowed := true }
def ChangeBackUptoSaid : Prop := changeBackUptoRow.holds Tryz.pinned (OpenSpec.upto changeBackSpec)

/-- 'flagstonelaw08.ChangeThere', WHERE WHAT IT READS IS OF BULK AT MOST 1048576: true; the input reads as it did. -/
def changeThereUptoRow : OpenClaim := { program := "ytpmhmippoefcfaagreatdoor", sum := "22fc31f2f2014db236be158f18c2b091b5489732a11d6c437b34efe725696083", func := "flagstone/flagstonelaw08.ChangeThere", spec := "changeThere", inPlace := ["internal/bytealg.IndexByteString", "internal/reflectlite.ValueOf", "(internal/reflectlite.Value).Type", "(internal/reflectlite.Value).IsNil", "internal/reflectlite.TypeOf", "(internal/reflectlite.Value).Elem", "(internal/reflectlite.Value).Set"], unfollowed := true, recurses := true, named := ["errors.errorType", "flagstone/change.errExists", "flagstone/change.errIsDir", "flagstone/change.errNotDir", "flagstone/change.errNone", "flagstone/change.errAccess", "flagstone/change.errArg", "flagstone/change.errFull", "flagstone/change.errLong", "flagstone/change.errLinks", "flagstone/change.errInto"], apart := false, laid := [("errors.errorType", laid_errors_errorType), ("flagstone/change.errArg", laid_flagstone_change_errArg), ("flagstone/change.errNone", laid_flagstone_change_errNone), ("flagstone/change.errExists", laid_flagstone_change_errExists), ("flagstone/change.errNotDir", laid_flagstone_change_errNotDir), ("flagstone/change.errIsDir", laid_flagstone_change_errIsDir), ("flagstone/change.errFull", laid_flagstone_change_errFull), ("flagstone/change.errAccess", laid_flagstone_change_errAccess), ("flagstone/change.errLong", laid_flagstone_change_errLong), ("flagstone/change.errLinks", laid_flagstone_change_errLinks), ("flagstone/change.errInto", laid_flagstone_change_errInto)], narrowed := true }
def ChangeThereUptoSaid : Prop := changeThereUptoRow.holds Tryz.pinned (OpenSpec.upto changeThereSpec)

/-- 'flagstonelaw08.ChangeMoves', WHERE WHAT IT READS IS OF BULK AT MOST 1048576: true; the input reads as it did. -/
def changeMovesUptoRow : OpenClaim := { program := "ytpmhmippoefcfaagreatdoor", sum := "22fc31f2f2014db236be158f18c2b091b5489732a11d6c437b34efe725696083", func := "flagstone/flagstonelaw08.ChangeMoves", spec := "changeMoves", inPlace := ["internal/bytealg.IndexByteString", "internal/reflectlite.ValueOf", "(internal/reflectlite.Value).Type", "(internal/reflectlite.Value).IsNil", "internal/reflectlite.TypeOf", "(internal/reflectlite.Value).Elem", "(internal/reflectlite.Value).Set"], unfollowed := true, recurses := true, named := ["errors.errorType", "flagstone/change.errExists", "flagstone/change.errIsDir", "flagstone/change.errNotDir", "flagstone/change.errNone", "flagstone/change.errAccess", "flagstone/change.errArg", "flagstone/change.errFull", "flagstone/change.errLong", "flagstone/change.errLinks", "flagstone/change.errInto"], apart := false, laid := [("errors.errorType", laid_errors_errorType), ("flagstone/change.errArg", laid_flagstone_change_errArg), ("flagstone/change.errNone", laid_flagstone_change_errNone), ("flagstone/change.errExists", laid_flagstone_change_errExists), ("flagstone/change.errNotDir", laid_flagstone_change_errNotDir), ("flagstone/change.errIsDir", laid_flagstone_change_errIsDir), ("flagstone/change.errFull", laid_flagstone_change_errFull), ("flagstone/change.errAccess", laid_flagstone_change_errAccess), ("flagstone/change.errLong", laid_flagstone_change_errLong), ("flagstone/change.errLinks", laid_flagstone_change_errLinks), ("flagstone/change.errInto", laid_flagstone_change_errInto)], narrowed := true }
def ChangeMovesUptoSaid : Prop := changeMovesUptoRow.holds Tryz.pinned (OpenSpec.upto changeMovesSpec)

end Rows
end Go.Proofs.YtpmhmippoefcfaaGreatDoor
