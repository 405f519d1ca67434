/-
  NARROWER THAN 'FOR EVERY INPUT', by the rows' own cells (each row's printed sentence says how): WalkFinds: laid · WalkJoins: laid · WalkRoot: laid · WalkSuper: laid · WalkLast: laid · WalkSpot: laid · WalkSlash: laid.
  DERIVED. THE GIVEN ROWS OF THIS SEAT. 7 by the template 'for every input the law returns true; each argument reads behind the call as it read before'; 0 by the template 'total and deterministic' (their statements: YtckbhkchnhhecaaDoorTotals.lean).
  GIVEN WITH THE SEED: the statements are not yours to turn. If you find one false, say at which input.
  Laid BY PROGRAM, IN A SANDBOX (cutbox-rows.mjs): the forced cells as the released guide's own fill.sh prints them over the translation adb4b12dc451dc3f… (all of the seat's roots in one cut). By AI agents, Wed Nov 11 2026. No macro, syntax, notation, axiom, sorry.
-/
import Derived.Test.YtckbhkchnhhecaaDoorChecked
import GoSem.Claim
import GoSem.ClaimJoined
import GoSem.ClaimMapViews
import Derived.JoinedTies
import Derived.KernelRfl
namespace Go.Proofs.YtckbhkchnhhecaaDoor
/- THE CELL 'sum', in the pinned program and in every row, IS THE sha256 OF THE DUMP (.gsa) THAT YtckbhkchnhhecaaDoorProg.lean LOADS. Nothing in Lean hashes anything: it is a label: what it is worth is what the hold of that sum in a sandbox is worth. -/
noncomputable def Tryd.pinned : Pinned := { name := "ytckbhkchnhhecaadoor", sum := "adb4b12dc451dc3f26b3ed474d6e23dee90194b39e1bd83933cdfa16b57f5111", checked := Tryd.checked }
namespace Rows
def none {H : Type} : Left H := { results := [], args := [] }

/- WHAT THE LISTED PACKAGE-LEVEL VARIABLES READ AS WHEN THE CALL BEGINS. Each datum BY PROGRAM (the guide's laid-datum.mjs) off the statement by which the dump's own 'gosem.cut.vars' lays the variable. In a bare row this is a premise. The card (YtckbhkchnhhecaaDoorCards.lean) ties it to the program's text. -/
def laid_errors_errorType {H : Type} : DataW H := .iface "internal/reflectlite.rtype" (.agg [.ptr (.lit (.string [101, 114, 114, 111, 114]))])

/-- 'flagstonelaw07.WalkFinds': WHATEVER THE INPUT: true; the input reads as it did. -/
def walkFindsSpec : ChangeSpec := { name := "walkFinds", fn := fun _ => fun
  | [d1, d2, d3, d4, d5] => { results := [.lit (.bool true)], args := [d1, d2, d3, d4, d5] }
  | _ => none }
def walkFindsRow : OpenClaim := { program := "ytckbhkchnhhecaadoor", sum := "adb4b12dc451dc3f26b3ed474d6e23dee90194b39e1bd83933cdfa16b57f5111", func := "flagstone/flagstonelaw07.WalkFinds", spec := "walkFinds", inPlace := ["internal/bytealg.IndexByteString", "internal/reflectlite.ValueOf", "(internal/reflectlite.Value).Type", "(internal/reflectlite.Value).IsNil", "internal/reflectlite.TypeOf", "(internal/reflectlite.Value).Elem", "(internal/reflectlite.Value).Set"], unfollowed := true, recurses := true, named := ["errors.errorType"], apart := false, laid := [("errors.errorType", laid_errors_errorType)] }
def WalkFindsSaid : Prop := walkFindsRow.holds Tryd.pinned (OpenSpec.ofChange walkFindsSpec)

/-- ITS FALSE NEIGHBOUR: 'it returns false'. Refute it at one input. -/
def walkFindsWrong : ChangeSpec := { name := "walkFinds", fn := fun _ => fun
  | [d1, d2, d3, d4, d5] => { results := [.lit (.bool false)], args := [d1, d2, d3, d4, d5] }
  | _ => none }
def WalkFindsWrongFalsely : Prop := walkFindsRow.holds Tryd.pinned (OpenSpec.ofChange walkFindsWrong)

/-- 'flagstonelaw07.WalkJoins': WHATEVER THE INPUT: true; the input reads as it did. -/
def walkJoinsSpec : ChangeSpec := { name := "walkJoins", fn := fun _ => fun
  | [d1, d2, d3, d4, d5] => { results := [.lit (.bool true)], args := [d1, d2, d3, d4, d5] }
  | _ => none }
def walkJoinsRow : OpenClaim := { program := "ytckbhkchnhhecaadoor", sum := "adb4b12dc451dc3f26b3ed474d6e23dee90194b39e1bd83933cdfa16b57f5111", func := "flagstone/flagstonelaw07.WalkJoins", spec := "walkJoins", inPlace := ["internal/bytealg.IndexByteString", "internal/reflectlite.ValueOf", "(internal/reflectlite.Value).Type", "(internal/reflectlite.Value).IsNil", "internal/reflectlite.TypeOf", "(internal/reflectlite.Value).Elem", "(internal/reflectlite.Value).Set"], unfollowed := true, recurses := true, named := ["errors.errorType"], apart := false, laid := [("errors.errorType", laid_errors_errorType)] }
def WalkJoinsSaid : Prop := walkJoinsRow.holds Tryd.pinned (OpenSpec.ofChange walkJoinsSpec)

/-- ITS FALSE NEIGHBOUR: 'it returns false'. Refute it at one input. -/
def walkJoinsWrong : ChangeSpec := { name := "walkJoins", fn := fun _ => fun
  | [d1, d2, d3, d4, d5] => { results := [.lit (.bool false)], args := [d1, d2, d3, d4, d5] }
  | _ => none }
def WalkJoinsWrongFalsely : Prop := walkJoinsRow.holds Tryd.pinned (OpenSpec.ofChange walkJoinsWrong)

/-- 'flagstonelaw07.WalkRoot': WHATEVER THE INPUT: true; the input reads as it did. -/
def walkRootSpec : ChangeSpec := { name := "walkRoot", fn := fun _ => fun
  | [d1, d2, d3, d4, d5, d6] => { results := [.lit (.bool true)], args := [d1, d2, d3, d4, d5, d6] }
  | _ => none }
def walkRootRow : OpenClaim := { program := "ytckbhkchnhhecaadoor", sum := "adb4b12dc451dc3f26b3ed474d6e23dee90194b39e1bd83933cdfa16b57f5111", func := "flagstone/flagstonelaw07.WalkRoot", spec := "walkRoot", inPlace := ["internal/bytealg.IndexByteString", "internal/reflectlite.ValueOf", "(internal/reflectlite.Value).Type", "(internal/reflectlite.Value).IsNil", "internal/reflectlite.TypeOf", "(internal/reflectlite.Value).Elem", "(internal/reflectlite.Value).Set"], unfollowed := true, recurses := true, named := ["errors.errorType"], apart := false, laid := [("errors.errorType", laid_errors_errorType)] }
def WalkRootSaid : Prop := walkRootRow.holds Tryd.pinned (OpenSpec.ofChange walkRootSpec)

/-- ITS FALSE NEIGHBOUR: 'it returns false'. Refute it at one input. -/
def walkRootWrong : ChangeSpec := { name := "walkRoot", fn := fun _ => fun
  | [d1, d2, d3, d4, d5, d6] => { results := [.lit (.bool false)], args := [d1, d2, d3, d4, d5, d6] }
  | _ => none }
def WalkRootWrongFalsely : Prop := walkRootRow.holds Tryd.pinned (OpenSpec.ofChange walkRootWrong)

/-- 'flagstonelaw07.WalkSuper': WHATEVER THE INPUT: true; the input reads as it did. -/
def walkSuperSpec : ChangeSpec := { name := "walkSuper", fn := fun _ => fun
  | [d1, d2, d3, d4, d5] => { results := [.lit (.bool true)], args := [d1, d2, d3, d4, d5] }
  | _ => none }
def walkSuperRow : OpenClaim := { program := "ytckbhkchnhhecaadoor", sum := "adb4b12dc451dc3f26b3ed474d6e23dee90194b39e1bd83933cdfa16b57f5111", func := "flagstone/flagstonelaw07.WalkSuper", spec := "walkSuper", inPlace := ["internal/bytealg.IndexByteString", "internal/reflectlite.ValueOf", "(internal/reflectlite.Value).Type", "(internal/reflectlite.Value).IsNil", "internal/reflectlite.TypeOf", "(internal/reflectlite.Value).Elem", "(internal/reflectlite.Value).Set"], unfollowed := true, recurses := true, named := ["errors.errorType"], apart := false, laid := [("errors.errorType", laid_errors_errorType)] }
def WalkSuperSaid : Prop := walkSuperRow.holds Tryd.pinned (OpenSpec.ofChange walkSuperSpec)

/-- ITS FALSE NEIGHBOUR: 'it returns false'. Refute it at one input. -/
def walkSuperWrong : ChangeSpec := { name := "walkSuper", fn := fun _ => fun
  | [d1, d2, d3, d4, d5] => { results := [.lit (.bool false)], args := [d1, d2, d3, d4, d5] }
  | _ => none }
def WalkSuperWrongFalsely : Prop := walkSuperRow.holds Tryd.pinned (OpenSpec.ofChange walkSuperWrong)

/-- 'flagstonelaw07.WalkLast': WHATEVER THE INPUT: true; the input reads as it did. -/
def walkLastSpec : ChangeSpec := { name := "walkLast", fn := fun _ => fun
  | [d1, d2, d3, d4] => { results := [.lit (.bool true)], args := [d1, d2, d3, d4] }
  | _ => none }
def walkLastRow : OpenClaim := { program := "ytckbhkchnhhecaadoor", sum := "adb4b12dc451dc3f26b3ed474d6e23dee90194b39e1bd83933cdfa16b57f5111", func := "flagstone/flagstonelaw07.WalkLast", spec := "walkLast", inPlace := ["internal/bytealg.IndexByteString", "internal/reflectlite.ValueOf", "(internal/reflectlite.Value).Type", "(internal/reflectlite.Value).IsNil", "internal/reflectlite.TypeOf", "(internal/reflectlite.Value).Elem", "(internal/reflectlite.Value).Set"], unfollowed := true, recurses := true, named := ["errors.errorType"], apart := false, laid := [("errors.errorType", laid_errors_errorType)] }
def WalkLastSaid : Prop := walkLastRow.holds Tryd.pinned (OpenSpec.ofChange walkLastSpec)

/-- ITS FALSE NEIGHBOUR: 'it returns false'. Refute it at one input. -/
def walkLastWrong : ChangeSpec := { name := "walkLast", fn := fun _ => fun
  | [d1, d2, d3, d4] => { results := [.lit (.bool false)], args := [d1, d2, d3, d4] }
  | _ => none }
def WalkLastWrongFalsely : Prop := walkLastRow.holds Tryd.pinned (OpenSpec.ofChange walkLastWrong)

/-- 'flagstonelaw07.WalkSpot': WHATEVER THE INPUT: true; the input reads as it did. -/
def walkSpotSpec : ChangeSpec := { name := "walkSpot", fn := fun _ => fun
  | [d1, d2, d3, d4, d5] => { results := [.lit (.bool true)], args := [d1, d2, d3, d4, d5] }
  | _ => none }
def walkSpotRow : OpenClaim := { program := "ytckbhkchnhhecaadoor", sum := "adb4b12dc451dc3f26b3ed474d6e23dee90194b39e1bd83933cdfa16b57f5111", func := "flagstone/flagstonelaw07.WalkSpot", spec := "walkSpot", inPlace := ["internal/bytealg.IndexByteString", "internal/reflectlite.ValueOf", "(internal/reflectlite.Value).Type", "(internal/reflectlite.Value).IsNil", "internal/reflectlite.TypeOf", "(internal/reflectlite.Value).Elem", "(internal/reflectlite.Value).Set"], unfollowed := true, recurses := true, named := ["errors.errorType"], apart := false, laid := [("errors.errorType", laid_errors_errorType)] }
def WalkSpotSaid : Prop := walkSpotRow.holds Tryd.pinned (OpenSpec.ofChange walkSpotSpec)

/-- ITS FALSE NEIGHBOUR: 'it returns false'. Refute it at one input. -/
def walkSpotWrong : ChangeSpec := { name := "walkSpot", fn := fun _ => fun
  | [d1, d2, d3, d4, d5] => { results := [.lit (.bool false)], args := [d1, d2, d3, d4, d5] }
  | _ => none }
def WalkSpotWrongFalsely : Prop := walkSpotRow.holds Tryd.pinned (OpenSpec.ofChange walkSpotWrong)

/-- 'flagstonelaw07.WalkSlash': WHATEVER THE INPUT: true; the input reads as it did. -/
def walkSlashSpec : ChangeSpec := { name := "walkSlash", fn := fun _ => fun
  | [d1, d2, d3, d4] => { results := [.lit (.bool true)], args := [d1, d2, d3, d4] }
  | _ => none }
def walkSlashRow : OpenClaim := { program := "ytckbhkchnhhecaadoor", sum := "adb4b12dc451dc3f26b3ed474d6e23dee90194b39e1bd83933cdfa16b57f5111", func := "flagstone/flagstonelaw07.WalkSlash", spec := "walkSlash", inPlace := ["internal/bytealg.IndexByteString", "internal/reflectlite.ValueOf", "(internal/reflectlite.Value).Type", "(internal/reflectlite.Value).IsNil", "internal/reflectlite.TypeOf", "(internal/reflectlite.Value).Elem", "(internal/reflectlite.Value).Set"], unfollowed := true, recurses := true, named := ["errors.errorType"], apart := false, laid := [("errors.errorType", laid_errors_errorType)] }
def WalkSlashSaid : Prop := walkSlashRow.holds Tryd.pinned (OpenSpec.ofChange walkSlashSpec)

/-- ITS FALSE NEIGHBOUR: 'it returns false'. Refute it at one input. -/
def walkSlashWrong : ChangeSpec := { name := "walkSlash", fn := fun _ => fun
  | [d1, d2, d3, d4] => { results := [.lit (.bool false)], args := [d1, d2, d3, d4] }
  | _ => none }
def WalkSlashWrongFalsely : Prop := walkSlashRow.holds Tryd.pinned (OpenSpec.ofChange walkSlashWrong)

/- THE SECOND FORM. 'bulk': how many values and letters a reading holds, each counted each time it is reached (what is shared counts as often as it is met; a slice's spare places count too). A statement '..UptoSaid' is the law's where the arguments, and the package variables that the reading takes, are together of bulk at most 1048576: NARROWER than '..Said'. Prove '..Said' where nothing that the law and all that it calls make is longer than what came in: it says more and counts as full. Else prove '..UptoSaid'. A law counts once. -/
mutual
def uptoBulk {H : Type} : DataW H → Nat
  | .lit (.string bytes) => bytes.length + 1
  | .lit _ => 1
  | .nil => 1
  | .ptr d => uptoBulk d + 1
  | .slice elems spare => uptoBulkAll elems + uptoBulkAll spare + 1
  | .agg parts => uptoBulkAll parts + 1
  | .iface _ d => uptoBulk d + 1
  | .map entries => uptoBulkEntries entries + 1
  | .held _ => 1
def uptoBulkAll {H : Type} : List (DataW H) → Nat
  | [] => 0
  | d :: r => uptoBulk d + uptoBulkAll r
def uptoBulkEntries {H : Type} : List (Lit × DataW H) → Nat
  | [] => 0
  | x :: r => uptoBulkEntry x + uptoBulkEntries r
def uptoBulkEntry {H : Type} : Lit × DataW H → Nat
  | (.string bytes, d) => bytes.length + uptoBulk d + 1
  | (_, d) => uptoBulk d + 1
 end
def uptoSmall : (H : Type) → List (DataW H) → Bool := fun _ ds => decide (uptoBulkAll ds ≤ 1048576)
def OpenSpec.upto (s : _root_.Go.ChangeSpec) : _root_.Go.OpenSpec := { _root_.Go.OpenSpec.ofChange s with cond := some uptoSmall }

/-- 'flagstonelaw07.WalkFinds', WHERE WHAT IT READS IS OF BULK AT MOST 1048576: true; the input reads as it did. -/
def walkFindsUptoRow : OpenClaim := { program := "ytckbhkchnhhecaadoor", sum := "adb4b12dc451dc3f26b3ed474d6e23dee90194b39e1bd83933cdfa16b57f5111", func := "flagstone/flagstonelaw07.WalkFinds", spec := "walkFinds", inPlace := ["internal/bytealg.IndexByteString", "internal/reflectlite.ValueOf", "(internal/reflectlite.Value).Type", "(internal/reflectlite.Value).IsNil", "internal/reflectlite.TypeOf", "(internal/reflectlite.Value).Elem", "(internal/reflectlite.Value).Set"], unfollowed := true, recurses := true, named := ["errors.errorType"], apart := false, laid := [("errors.errorType", laid_errors_errorType)], narrowed := true }
def WalkFindsUptoSaid : Prop := walkFindsUptoRow.holds Tryd.pinned (OpenSpec.upto walkFindsSpec)

/-- 'flagstonelaw07.WalkJoins', WHERE WHAT IT READS IS OF BULK AT MOST 1048576: true; the input reads as it did. -/
def walkJoinsUptoRow : OpenClaim := { program := "ytckbhkchnhhecaadoor", sum := "adb4b12dc451dc3f26b3ed474d6e23dee90194b39e1bd83933cdfa16b57f5111", func := "flagstone/flagstonelaw07.WalkJoins", spec := "walkJoins", inPlace := ["internal/bytealg.IndexByteString", "internal/reflectlite.ValueOf", "(internal/reflectlite.Value).Type", "(internal/reflectlite.Value).IsNil", "internal/reflectlite.TypeOf", "(internal/reflectlite.Value).Elem", "(internal/reflectlite.Value).Set"], unfollowed := true, recurses := true, named := ["errors.errorType"], apart := false, laid := [("errors.errorType", laid_errors_errorType)], narrowed := true }
def WalkJoinsUptoSaid : Prop := walkJoinsUptoRow.holds Tryd.pinned (OpenSpec.upto walkJoinsSpec)

/-- 'flagstonelaw07.WalkRoot', WHERE WHAT IT READS IS OF BULK AT MOST 1048576: true; the input reads as it did. -/
def walkRootUptoRow : OpenClaim := { program := "ytckbhkchnhhecaadoor", sum := "adb4b12dc451dc3f26b3ed474d6e23dee90194b39e1bd83933cdfa16b57f5111", func := "flagstone/flagstonelaw07.WalkRoot", spec := "walkRoot", inPlace := ["internal/bytealg.IndexByteString", "internal/reflectlite.ValueOf", "(internal/reflectlite.Value).Type", "(internal/reflectlite.Value).IsNil", "internal/reflectlite.TypeOf", "(internal/reflectlite.Value).Elem", "(internal/reflectlite.Value).Set"], unfollowed := true, recurses := true, named := ["errors.errorType"], apart := false, laid := [("errors.errorType", laid_errors_errorType)], narrowed := true }
def WalkRootUptoSaid : Prop := walkRootUptoRow.holds Tryd.pinned (OpenSpec.upto walkRootSpec)

/-- 'flagstonelaw07.WalkSuper', WHERE WHAT IT READS IS OF BULK AT MOST 1048576: true; the input reads as it did. -/
def walkSuperUptoRow : OpenClaim := { program := "ytckbhkchnhhecaadoor", sum := "adb4b12dc451dc3f26b3ed474d6e23dee90194b39e1bd83933cdfa16b57f5111", func := "flagstone/flagstonelaw07.WalkSuper", spec := "walkSuper", inPlace := ["internal/bytealg.IndexByteString", "internal/reflectlite.ValueOf", "(internal/reflectlite.Value).Type", "(internal/reflectlite.Value).IsNil", "internal/reflectlite.TypeOf", "(internal/reflectlite.Value).Elem", "(internal/reflectlite.Value).Set"], unfollowed := true, recurses := true, named := ["errors.errorType"], apart := false, laid := [("errors.errorType", laid_errors_errorType)], narrowed := true }
def WalkSuperUptoSaid : Prop := walkSuperUptoRow.holds Tryd.pinned (OpenSpec.upto walkSuperSpec)

/-- 'flagstonelaw07.WalkLast', WHERE WHAT IT READS IS OF BULK AT MOST 1048576: true; the input reads as it did. -/
def walkLastUptoRow : OpenClaim := { program := "ytckbhkchnhhecaadoor", sum := "adb4b12dc451dc3f26b3ed474d6e23dee90194b39e1bd83933cdfa16b57f5111", func := "flagstone/flagstonelaw07.WalkLast", spec := "walkLast", inPlace := ["internal/bytealg.IndexByteString", "internal/reflectlite.ValueOf", "(internal/reflectlite.Value).Type", "(internal/reflectlite.Value).IsNil", "internal/reflectlite.TypeOf", "(internal/reflectlite.Value).Elem", "(internal/reflectlite.Value).Set"], unfollowed := true, recurses := true, named := ["errors.errorType"], apart := false, laid := [("errors.errorType", laid_errors_errorType)], narrowed := true }
def WalkLastUptoSaid : Prop := walkLastUptoRow.holds Tryd.pinned (OpenSpec.upto walkLastSpec)

/-- 'flagstonelaw07.WalkSpot', WHERE WHAT IT READS IS OF BULK AT MOST 1048576: true; the input reads as it did. -/
def walkSpotUptoRow : OpenClaim := { program := "ytckbhkchnhhecaadoor", sum := "adb4b12dc451dc3f26b3ed474d6e23dee90194b39e1bd83933cdfa16b57f5111", func := "flagstone/flagstonelaw07.WalkSpot", spec := "walkSpot", inPlace := ["internal/bytealg.IndexByteString", "internal/reflectlite.ValueOf", "(internal/reflectlite.Value).Type", "(internal/reflectlite.Value).IsNil", "internal/reflectlite.TypeOf", "(internal/reflectlite.Value).Elem", "(internal/reflectlite.Value).Set"], unfollowed := true, recurses := true, named := ["errors.errorType"], apart := false, laid := [("errors.errorType", laid_errors_errorType)], narrowed := true }
def WalkSpotUptoSaid : Prop := walkSpotUptoRow.holds Tryd.pinned (OpenSpec.upto walkSpotSpec)

/-- 'flagstonelaw07.WalkSlash', WHERE WHAT IT READS IS OF BULK AT MOST 1048576: true; the input reads as it did. -/
def walkSlashUptoRow : OpenClaim := { program := "ytckbhkchnhhecaadoor", sum := "adb4b12dc451dc3f26b3ed474d6e23dee90194b39e1bd83933cdfa16b57f5111", func := "flagstone/flagstonelaw07.WalkSlash", spec := "walkSlash", inPlace := ["internal/bytealg.IndexByteString", "internal/reflectlite.ValueOf", "(internal/reflectlite.Value).Type", "(internal/reflectlite.Value).IsNil", "internal/reflectlite.TypeOf", "(internal/reflectlite.Value).Elem", "(internal/reflectlite.Value).Set"], unfollowed := true, recurses := true, named := ["errors.errorType"], apart := false, laid := [("errors.errorType", laid_errors_errorType)], narrowed := true }
def WalkSlashUptoSaid : Prop := walkSlashUptoRow.holds Tryd.pinned (OpenSpec.upto walkSlashSpec)

end Rows
end Go.Proofs.YtckbhkchnhhecaaDoor
