/-
  errors.As and errors.Is at the errors of package change: a text, and what wraps it: a number of a layer below, or a sentinel.
-/
import Derived.RangeFuncNested
import Derived.RangeFuncBound
import Derived.RangeFuncCalls
import Derived.RangeFuncLeaves
import Derived.RangeFuncBox
import Derived.Shelf.Abstract
import Derived.Shelf.RegionOpen
import Derived.WalkKit
import Derived.OwnWalkIn
import Derived.TacticsInMore
import Derived.LoopNIn
import Derived.LoopIn
import Derived.Lib.Hide
import Derived.Outline
import Derived.Deep.QuietTactic
import Derived.Deep.AppendLies
import Derived.BigQuiet
import Derived.Lib.Strings
import Derived.WalkSmall
import Derived.Laws.AppendOwn
import Derived.Laws.OwnMore
import Derived.Laws.AppendOwnNone
import Derived.WideShapes
import Derived.LaidEql
import Derived.Stop.Asserts
import Derived.RowKitTokens
import Derived.Test.YtpmhmippoefcfaaGreatDoorProg
import Derived.Test.YtpmhmippoefcfaaGreatDoorB03
import Derived.Test.YtpmhmippoefcfaaGreatDoorB14
namespace Go.Proofs.YtpmhmippoefcfaaGreatDoor
open Go.RowKit Go.Shelf Go.Lib Go.Extern.Stop Go.Stop Go.Extern
/-- A number of a layer below; an error of package change. -/
abbrev belowV (n : Int) : Value := .iface 111 (.int .i64 n)
abbrev unmetV (p : ByteArray) (c : Value) : Value := .iface 89 (.agg #[.string p, c])
abbrev sentV (a : Addr) : Value := .iface 220 (.pointer (some a))
theorem casValueOfP (t : Addr) (w : World) : (ReflectliteValue.unpack (.iface 141 (.pointer (some t)))).run Tryz.prog w
    = .ok (.agg #[hdl 141, .pointer (some ⟨w.heap.size, 0, none⟩), .int .u64 150]) (w.alloc (.cells #[.pointer (some t)] 141)) := by kernel_rfl
theorem casType (a : Addr) (w : World) : (ReflectliteValue.methodAny (ReflectliteValue.valueError "reflectlite.Value.Type" 0) (fun t _ _ _ => ReflectliteType.toType t) #[.agg #[hdl 141, .pointer (some a), .int .u64 150]]).run Tryz.prog w
    = .ok (rtV 141) w := by kernel_rfl
theorem casKindP (w : World) : ((ReflectliteType.abiMethod fun t => (fun a : Nat => Value.int IntKind.u8 (a : Int)) <$> Rtype.kind t) #[hdl 141]).run Tryz.prog w = .ok (.int .u8 22) w := by kernel_rfl
theorem casKindF (w : World) : ((ReflectliteType.abiMethod fun t => (fun a : Nat => Value.int IntKind.u8 (a : Int)) <$> Rtype.kind t) #[hdl 111]).run Tryz.prog w = .ok (.int .u8 2) w := by kernel_rfl
theorem casPartsP (a : Addr) (w : World) : (ReflectliteValue.parts (.agg #[hdl 141, .pointer (some a), .int .u64 150])).run Tryz.prog w = .ok (some (141, a, 150)) w := by kernel_rfl
theorem casIsNil (a p : Addr) (W : World) (ha : W.cell? a = some (.pointer (some p))) :
    (ReflectliteValue.method (ReflectliteValue.valueError "reflectlite.Value.IsNil" 0) ReflectliteValue.isNil #[.agg #[hdl 141, .pointer (some a), .int .u64 150]]).run Tryz.prog W = .ok (.bool false) W := by
  rw [rlm]
  simp only [Sem.run_bind, casPartsP, Result.andThen]
  simp [ReflectliteValue.isNil, loadVar, isAgg, underlying, Tryz.underlying141, ha, Result.andThen]
theorem casMethodUnwrap (v : Value) (w : World) : (Go.method 353 89 v "Unwrap").run Tryz.prog w = .ok (172, v) w := by kernel_rfl
theorem casElemT (w : World) : (ReflectliteType.method ReflectliteType.elem #[.agg #[hdl 141]]).run Tryz.prog w = .ok (rtV 111) w := by kernel_rfl
theorem casImplements (w : World) : (ReflectliteType.relation "Implements" ReflectliteType.implements_ #[.agg #[hdl 111], rtV 87]).run Tryz.prog w = .ok (.bool true) w := by kernel_rfl
theorem casTypeOfF (v : Value) (w : World) : (ReflectliteType.typeOf #[.iface 111 v]).run Tryz.prog w = .ok (rtV 111) w := by kernel_rfl
theorem casTypeOfL (v : Value) (w : World) : (ReflectliteType.typeOf #[.iface 89 v]).run Tryz.prog w = .ok (rtV 89) w := by kernel_rfl
theorem casAssignableF (w : World) : (ReflectliteType.relation "AssignableTo" ReflectliteType.assignableTo #[.agg #[hdl 111], rtV 111]).run Tryz.prog w = .ok (.bool true) w := by kernel_rfl
theorem casAssignableL (w : World) : (ReflectliteType.relation "AssignableTo" ReflectliteType.assignableTo #[.agg #[hdl 89], rtV 111]).run Tryz.prog w = .ok (.bool false) w := by kernel_rfl
theorem casValueOfF (n : Int) (w : World) : (ReflectliteValue.unpack (belowV n)).run Tryz.prog w
    = .ok (.agg #[hdl 111, .pointer (some ⟨w.heap.size, 0, none⟩), .int .u64 130]) (w.alloc (.cells #[.int .i64 n] 111)) := by kernel_rfl
theorem casElemOf (w : World) : (Rtype.elem? 141).run Tryz.prog w = .ok (some 111) w := by kernel_rfl
theorem casMkF (p : Addr) (w : World) : (ReflectliteValue.mk 111 p ReflectliteValue.flagAddr).run Tryz.prog w = .ok (.agg #[hdl 111, .pointer (some p), .int .u64 386]) w := by kernel_rfl
theorem casElemV (a p : Addr) (W : World) (ha : W.cell? a = some (.pointer (some p))) :
    (ReflectliteValue.method (ReflectliteValue.valueError "reflectlite.Value.Elem" 0) ReflectliteValue.elem #[.agg #[hdl 141, .pointer (some a), .int .u64 150]]).run Tryz.prog W
      = .ok (.agg #[hdl 111, .pointer (some p), .int .u64 386]) W := by
  rw [rlm]
  simp only [Sem.run_bind, casPartsP, Result.andThen]
  simp [ReflectliteValue.elem, loadVar, isAgg, underlying, Tryz.underlying141, ha, Result.andThen, casElemOf, casMkF]
theorem casPartsA (a : Addr) (w : World) : (ReflectliteValue.parts (.agg #[hdl 111, .pointer (some a), .int .u64 386])).run Tryz.prog w = .ok (some (111, a, 386)) w := by kernel_rfl
theorem casPartsF (a : Addr) (w : World) : (ReflectliteValue.parts (.agg #[hdl 111, .pointer (some a), .int .u64 130])).run Tryz.prog w = .ok (some (111, a, 130)) w := by kernel_rfl
theorem casDirect (w : World) : (Rtype.directlyAssignable 111 111).run Tryz.prog w = .ok true w := by kernel_rfl
theorem casSet (ta b : Addr) (n : Int) (old : Value) (W : World) (hb : W.cell? b = some (.int .i64 n)) (ht : W.cell? ta = some old) (hf : W.frozen? ta = false) :
    (ReflectliteValue.set #[.agg #[hdl 111, .pointer (some ta), .int .u64 386], .agg #[hdl 111, .pointer (some b), .int .u64 130]]).run Tryz.prog W
      = .ok (.tuple #[]) (W.setCell ta (.int .i64 n)) := by
  rw [rls]
  simp only [Sem.run_bind, casPartsA, casPartsF, Result.andThen]
  simp [ReflectliteValue.flagAddr, loadVar, isAgg, underlying, Tryz.underlying111, hb, Result.andThen, casDirect, storeVar, Value.cells, storeCells, Addr.add]
  rw [run_store Tryz.prog W ta _ _ (by rfl)]
  simp [ht, hf]
theorem casNoAsF (v : Value) (xT : TypeId) (w : World) : (Instr.typeAssert (.iface 89 v) xT 194 true).run Tryz.prog w = .ok (.tuple #[.nilIface, .bool false]) w := run_typeAssert_lacksB Tryz.underlying194 (by kernel_rfl) (by kernel_rfl) v xT w
theorem casHasUnwrap (v : Value) (xT : TypeId) (w : World) : (Instr.typeAssert (.iface 89 v) xT 197 true).run Tryz.prog w = .ok (.tuple #[.iface 89 v, .bool true]) w := run_typeAssert_hasB Tryz.underlying197 (by kernel_rfl) v xT w
theorem casTypeOfE (v : Value) (w : World) : (ReflectliteType.typeOf #[.iface 220 v]).run Tryz.prog w = .ok (rtV 220) w := by kernel_rfl
theorem casAssignableE (w : World) : (ReflectliteType.relation "AssignableTo" ReflectliteType.assignableTo #[.agg #[hdl 220], rtV 111]).run Tryz.prog w = .ok (.bool false) w := by kernel_rfl
theorem casNoAsE (v : Value) (xT : TypeId) (w : World) : (Instr.typeAssert (.iface 220 v) xT 194 true).run Tryz.prog w = .ok (.tuple #[.nilIface, .bool false]) w := run_typeAssert_lacksB Tryz.underlying194 (by kernel_rfl) (by kernel_rfl) v xT w
theorem casNoIsU (v : Value) (xT : TypeId) (w : World) : (Instr.typeAssert (.iface 89 v) xT 201 true).run Tryz.prog w = .ok (.tuple #[.nilIface, .bool false]) w := run_typeAssert_lacksB Tryz.underlying201 (by kernel_rfl) (by kernel_rfl) v xT w
set_option maxHeartbeats 4000000 in
theorem as_below (p : ByteArray) (n : Int) (t : Addr) (old : Value) (w : World) (hg : w.cell? ⟨10, 0, none⟩ = some errTypeV) (ht0 : w.cell? t = some old) (hf0 : w.frozen? t = false) :
    Calls Tryz.prog 88 #[unmetV p (belowV n), .iface 141 (.pointer (some t))] w fun e w' => AsIs t n e w w' := by
  have h6 := @run_callFunc_extern Tryz.prog 115 _ (fun args => ReflectliteValue.unpack (args.getD 0 (.tuple #[]))) Tryz.func115 (by kernel_rfl) (by kernel_rfl) (by kernel_rfl) (by kernel_rfl)
  have h7 := @run_callFunc_extern Tryz.prog 116 _ (ReflectliteValue.methodAny (ReflectliteValue.valueError "reflectlite.Value.Type" 0) (fun t _ _ _ => ReflectliteType.toType t)) Tryz.func116 (by kernel_rfl) (by kernel_rfl) (by kernel_rfl) (by kernel_rfl)
  have h8 := @run_callFunc_extern Tryz.prog 117 _ (ReflectliteValue.method (ReflectliteValue.valueError "reflectlite.Value.IsNil" 0) ReflectliteValue.isNil) Tryz.func117 (by kernel_rfl) (by kernel_rfl) (by kernel_rfl) (by kernel_rfl)
  have h27 := @run_callFunc_extern Tryz.prog 168 _ (ReflectliteType.abiMethod fun t => do pure (.int .u8 (← Rtype.kind t))) Tryz.func168 (by kernel_rfl) (by kernel_rfl) (by kernel_rfl) (by kernel_rfl)
  have h37 := @run_callFunc_extern Tryz.prog 183 _ (ReflectliteType.method ReflectliteType.elem) Tryz.func183 (by kernel_rfl) (by kernel_rfl) (by kernel_rfl) (by kernel_rfl)
  have h38 := @run_callFunc_extern Tryz.prog 184 _ (ReflectliteType.relation "Implements" ReflectliteType.implements_) Tryz.func184 (by kernel_rfl) (by kernel_rfl) (by kernel_rfl) (by kernel_rfl)
  have h10 := @run_callFunc_extern Tryz.prog 119 _ ReflectliteType.typeOf Tryz.func119 (by kernel_rfl) (by kernel_rfl) (by kernel_rfl) (by kernel_rfl)
  have h35 := @run_callFunc_extern Tryz.prog 181 _ (ReflectliteType.relation "AssignableTo" ReflectliteType.assignableTo) Tryz.func181 (by kernel_rfl) (by kernel_rfl) (by kernel_rfl) (by kernel_rfl)
  have h11 := @run_callFunc_extern Tryz.prog 131 _ (ReflectliteValue.method (ReflectliteValue.valueError "reflectlite.Value.Elem" 0) ReflectliteValue.elem) Tryz.func131 (by kernel_rfl) (by kernel_rfl) (by kernel_rfl) (by kernel_rfl)
  have h12 := @run_callFunc_extern Tryz.prog 132 _ ReflectliteValue.set Tryz.func132 (by kernel_rfl) (by kernel_rfl) (by kernel_rfl) (by kernel_rfl)
  have tF := casTypeOfF
  have mA := asMethodAssignableTo
  have aF := casAssignableF
  have vF := casValueOfF n
  have f6 := casValueOfP
  have f7 := casType
  have mK := asMethodKind
  have mE := asMethodElem
  have mI := asMethodImplements
  have kP := casKindP
  have kF := casKindF
  have eP := casElemT
  have iF := casImplements
  have tL := casTypeOfL
  have aL := casAssignableL
  have noA := casNoAsF
  have yesU := casHasUnwrap
  have mU := casMethodUnwrap
  have n8 := casIsNil ⟨w.heap.size, 0, none⟩ t ((w.alloc (.cells #[.pointer (some t)] 141)).alloc (.cells #[hdl 141, .pointer (some ⟨w.heap.size, 0, none⟩), .int .u64 150] 166)) (by simp)
  have hlt : 10 < w.heap.size := World.block_lt_of_cell? w _ hg
  have htl : t.block < w.heap.size := World.block_lt_of_cell? w t ht0
  have hg2 : ((w.alloc (.cells #[.pointer (some t)] 141)).alloc (.cells #[hdl 141, .pointer (some ⟨w.heap.size, 0, none⟩), .int .u64 150] 166)).cell? ⟨10, 0, none⟩ = some errTypeV := by
    rw [World.cell?_alloc_lt _ _ ⟨10, 0, none⟩ (by simp <;> omega), World.cell?_alloc_lt _ _ ⟨10, 0, none⟩ hlt]; exact hg
  have el := casElemV ⟨w.heap.size, 0, none⟩ t ((((w.alloc (.cells #[.pointer (some t)] 141)).alloc (.cells #[hdl 141, .pointer (some ⟨w.heap.size, 0, none⟩), .int .u64 150] 166)).alloc (.cells #[hdl 141, .pointer (some ⟨w.heap.size, 0, none⟩), .int .u64 150] 166)).alloc (.cells #[.string p, belowV n] 89)) (by rw [World.cell?_alloc_lt _ _ ⟨w.heap.size, 0, none⟩ (by simp; omega), World.cell?_alloc_lt _ _ ⟨w.heap.size, 0, none⟩ (by simp; omega)]; simp)
  have st := casSet t ⟨w.heap.size + 1 + 1 + 1 + 1, 0, none⟩ n old (((((w.alloc (.cells #[.pointer (some t)] 141)).alloc (.cells #[hdl 141, .pointer (some ⟨w.heap.size, 0, none⟩), .int .u64 150] 166)).alloc (.cells #[hdl 141, .pointer (some ⟨w.heap.size, 0, none⟩), .int .u64 150] 166)).alloc (.cells #[.string p, belowV n] 89)).alloc (.cells #[.int .i64 n] 111))
    (by rw [World.cell?_alloc_at _ _ _ _ (by simp)]; rfl)
    (by rw [World.cell?_alloc_lt _ _ t (by simp; omega), World.cell?_alloc_lt _ _ t (by simp; omega), World.cell?_alloc_lt _ _ t (by simp; omega), World.cell?_alloc_lt _ _ t (by simp; omega), World.cell?_alloc_lt _ _ t htl]; exact ht0)
    (by rw [World.frozen?_alloc_old _ _ t (by simp; omega), World.frozen?_alloc_old _ _ t (by simp; omega), World.frozen?_alloc_old _ _ t (by simp; omega), World.frozen?_alloc_old _ _ t (by simp; omega), World.frozen?_alloc_old _ _ t (Nat.ne_of_lt htl)]; exact hf0)
  have hb : Below w.heap.size w (((((w.alloc (.cells #[.pointer (some t)] 141)).alloc (.cells #[hdl 141, .pointer (some ⟨w.heap.size, 0, none⟩), .int .u64 150] 166)).alloc (.cells #[hdl 141, .pointer (some ⟨w.heap.size, 0, none⟩), .int .u64 150] 166)).alloc (.cells #[.string p, belowV n] 89)).alloc (.cells #[.int .i64 n] 111)) := (((((Below.refl _ w).alloc (Nat.le_refl _) _).alloc (by simp) _).alloc (by simp; omega) _).alloc (by simp; omega) _).alloc (by simp; omega) _
  have HB := Lib.hid hb
  have HT := Lib.hid ht0
  clear hb ht0 hf0
  go_enter Tryz.func88, Tryz.ntmps88
  go_wp2
  refine wp_loop_rounds 2 ?_
  rw [rounds_succ]
  go_wp2
  rw [rounds_succ]
  go_wp2
  go_ret
  exact as_is HB.out HT.out
set_option maxHeartbeats 4000000 in
theorem as_sent (p : ByteArray) (a t : Addr) (old : Value) (w : World) (hg : w.cell? ⟨10, 0, none⟩ = some errTypeV) (ht0 : w.cell? t = some old) :
    Calls Tryz.prog 88 #[unmetV p (sentV a), .iface 141 (.pointer (some t))] w fun e w' => e = .returned (.bool false) ∧ Below w.heap.size w w' := by
  have h6 := @run_callFunc_extern Tryz.prog 115 _ (fun args => ReflectliteValue.unpack (args.getD 0 (.tuple #[]))) Tryz.func115 (by kernel_rfl) (by kernel_rfl) (by kernel_rfl) (by kernel_rfl)
  have h7 := @run_callFunc_extern Tryz.prog 116 _ (ReflectliteValue.methodAny (ReflectliteValue.valueError "reflectlite.Value.Type" 0) (fun t _ _ _ => ReflectliteType.toType t)) Tryz.func116 (by kernel_rfl) (by kernel_rfl) (by kernel_rfl) (by kernel_rfl)
  have h8 := @run_callFunc_extern Tryz.prog 117 _ (ReflectliteValue.method (ReflectliteValue.valueError "reflectlite.Value.IsNil" 0) ReflectliteValue.isNil) Tryz.func117 (by kernel_rfl) (by kernel_rfl) (by kernel_rfl) (by kernel_rfl)
  have h27 := @run_callFunc_extern Tryz.prog 168 _ (ReflectliteType.abiMethod fun t => do pure (.int .u8 (← Rtype.kind t))) Tryz.func168 (by kernel_rfl) (by kernel_rfl) (by kernel_rfl) (by kernel_rfl)
  have h37 := @run_callFunc_extern Tryz.prog 183 _ (ReflectliteType.method ReflectliteType.elem) Tryz.func183 (by kernel_rfl) (by kernel_rfl) (by kernel_rfl) (by kernel_rfl)
  have h38 := @run_callFunc_extern Tryz.prog 184 _ (ReflectliteType.relation "Implements" ReflectliteType.implements_) Tryz.func184 (by kernel_rfl) (by kernel_rfl) (by kernel_rfl) (by kernel_rfl)
  have h10 := @run_callFunc_extern Tryz.prog 119 _ ReflectliteType.typeOf Tryz.func119 (by kernel_rfl) (by kernel_rfl) (by kernel_rfl) (by kernel_rfl)
  have h35 := @run_callFunc_extern Tryz.prog 181 _ (ReflectliteType.relation "AssignableTo" ReflectliteType.assignableTo) Tryz.func181 (by kernel_rfl) (by kernel_rfl) (by kernel_rfl) (by kernel_rfl)
  have h11 := @run_callFunc_extern Tryz.prog 131 _ (ReflectliteValue.method (ReflectliteValue.valueError "reflectlite.Value.Elem" 0) ReflectliteValue.elem) Tryz.func131 (by kernel_rfl) (by kernel_rfl) (by kernel_rfl) (by kernel_rfl)
  have h12 := @run_callFunc_extern Tryz.prog 132 _ ReflectliteValue.set Tryz.func132 (by kernel_rfl) (by kernel_rfl) (by kernel_rfl) (by kernel_rfl)
  have tF := casTypeOfF
  have mA := asMethodAssignableTo
  have aF := casAssignableF
  have f6 := casValueOfP
  have f7 := casType
  have mK := asMethodKind
  have mE := asMethodElem
  have mI := asMethodImplements
  have kP := casKindP
  have kF := casKindF
  have eP := casElemT
  have iF := casImplements
  have tL := casTypeOfL
  have aL := casAssignableL
  have noA := casNoAsF
  have yesU := casHasUnwrap
  have mU := casMethodUnwrap
  have n8 := casIsNil ⟨w.heap.size, 0, none⟩ t ((w.alloc (.cells #[.pointer (some t)] 141)).alloc (.cells #[hdl 141, .pointer (some ⟨w.heap.size, 0, none⟩), .int .u64 150] 166)) (by simp)
  have hlt : 10 < w.heap.size := World.block_lt_of_cell? w _ hg
  have htl : t.block < w.heap.size := World.block_lt_of_cell? w t ht0
  have hg2 : ((w.alloc (.cells #[.pointer (some t)] 141)).alloc (.cells #[hdl 141, .pointer (some ⟨w.heap.size, 0, none⟩), .int .u64 150] 166)).cell? ⟨10, 0, none⟩ = some errTypeV := by
    rw [World.cell?_alloc_lt _ _ ⟨10, 0, none⟩ (by simp <;> omega), World.cell?_alloc_lt _ _ ⟨10, 0, none⟩ hlt]; exact hg
  have tE := casTypeOfE
  have aE := casAssignableE
  have nE := casNoAsE
  have uE := noUnwrapE
  have vE := noUnwrapsE
  have hb : Below w.heap.size w ((((w.alloc (.cells #[.pointer (some t)] 141)).alloc (.cells #[hdl 141, .pointer (some ⟨w.heap.size, 0, none⟩), .int .u64 150] 166)).alloc (.cells #[hdl 141, .pointer (some ⟨w.heap.size, 0, none⟩), .int .u64 150] 166)).alloc (.cells #[.string p, sentV a] 89)) := ((((Below.refl _ w).alloc (Nat.le_refl _) _).alloc (by simp) _).alloc (by simp; omega) _).alloc (by simp; omega) _
  have HB := Lib.hid hb
  clear hb ht0
  go_enter Tryz.func88, Tryz.ntmps88
  go_wp2
  refine wp_loop_rounds 2 ?_
  rw [rounds_succ]
  go_wp2
  rw [rounds_succ]
  go_wp2
  go_ret
  exact ⟨rfl, HB.out⟩
set_option maxHeartbeats 4000000 in
theorem as_nil (t : Addr) (w : World) : Calls Tryz.prog 88 #[.nilIface, .iface 141 (.pointer (some t))] w fun e w' => e = .returned (.bool false) ∧ w' = w := by
  go_enter Tryz.func88, Tryz.ntmps88
  go_wp2
  go_ret
  exact ⟨rfl, rfl⟩
set_option maxHeartbeats 4000000 in
theorem is_nil (a : Addr) (w : World) : Calls Tryz.prog 89 #[.nilIface, sentV a] w fun e w' => e = .returned (.bool false) ∧ w' = w := by
  have heq := fun w => run_eql_iface_nil_left (P := Tryz.prog) (w := w) 220 (.pointer (some a)) Tryz.underlying87
  go_enter Tryz.func89, Tryz.ntmps89
  go_wp2
  go_ret
  exact ⟨rfl, rfl⟩
set_option maxHeartbeats 4000000 in
theorem is_unmet_same (p : ByteArray) (a : Addr) (w : World) :
    Calls Tryz.prog 89 #[unmetV p (sentV a), sentV a] w fun e w' => e = .returned (.bool true) ∧ Below w.heap.size w w' := by
  obtain ⟨i, hi, hcmp⟩ := Option.map_eq_some_iff.1 isComp
  obtain ⟨j, hj, hjs⟩ := Option.map_eq_some_iff.1 isSize
  have h8 := @run_callFunc_extern Tryz.prog 119 _ Extern.ReflectliteType.typeOf Tryz.func119 (by kernel_rfl) (by kernel_rfl) (by kernel_rfl) (by kernel_rfl)
  have h32 := @run_callFunc_extern Tryz.prog 182 _ compE Tryz.func182 (by kernel_rfl) (by kernel_rfl) (by kernel_rfl) (by kernel_rfl)
  have tT := isTypeOf
  have cT := isComparable
  have mR := isMethodComparable
  have nU := casNoIsU
  have yesU := casHasUnwrap
  have mU := casMethodUnwrap
  have het := fun w => run_eql_iface_types (P := Tryz.prog) 89 220 (.agg #[.string p, sentV a]) (.pointer (some a)) Tryz.underlying87 (by decide) w
  have heq := fun w => run_eql_iface_ptr_same (P := Tryz.prog) w a Tryz.underlying87 Tryz.underlying220 hi hcmp hj
  have HB : Hid (Below w.heap.size w (w.alloc (.cells #[.string p, sentV a] 89))) := Lib.hid ((Below.refl _ w).alloc (Nat.le_refl _) _)
  go_enter Tryz.func89, Tryz.ntmps89
  go_wp2
  refine wp_loop_rounds 2 ?_
  rw [rounds_succ]
  go_wp2
  rw [rounds_succ]
  go_wp2
  go_ret
  exact ⟨rfl, HB.out⟩
set_option maxHeartbeats 4000000 in
theorem is_unmet_other (p : ByteArray) (a b : Addr) (ca cb : Array Value) (ta tb : TypeId) (w : World) (hne : a ≠ b) (ha : w.heap[a.block]? = some (.cells ca ta (0, 0))) (hb : w.heap[b.block]? = some (.cells cb tb (0, 0))) :
    Calls Tryz.prog 89 #[unmetV p (sentV a), sentV b] w fun e w' => e = .returned (.bool false) ∧ Below w.heap.size w w' := by
  obtain ⟨i, hi, hcmp⟩ := Option.map_eq_some_iff.1 isComp
  obtain ⟨j, hj, hjs⟩ := Option.map_eq_some_iff.1 isSize
  have h8 := @run_callFunc_extern Tryz.prog 119 _ Extern.ReflectliteType.typeOf Tryz.func119 (by kernel_rfl) (by kernel_rfl) (by kernel_rfl) (by kernel_rfl)
  have h32 := @run_callFunc_extern Tryz.prog 182 _ compE Tryz.func182 (by kernel_rfl) (by kernel_rfl) (by kernel_rfl) (by kernel_rfl)
  have tT := isTypeOf
  have cT := isComparable
  have mR := isMethodComparable
  have nU := casNoIsU
  have yesU := casHasUnwrap
  have mU := casMethodUnwrap
  have nE := noIsE
  have uE := noUnwrapE
  have vE := noUnwrapsE
  have het := fun w => run_eql_iface_types (P := Tryz.prog) 89 220 (.agg #[.string p, sentV a]) (.pointer (some b)) Tryz.underlying87 (by decide) w
  have hba : Below w.heap.size w (w.alloc (.cells #[.string p, sentV a] 89)) := (Below.refl _ w).alloc (Nat.le_refl _) _
  have heq := run_eql_iface_ptr_other (P := Tryz.prog) (w.alloc (.cells #[.string p, sentV a] 89)) Tryz.underlying87 Tryz.underlying220 hi hcmp hj (by rw [hjs]; decide) hne ((hba.block _ (Array.getElem?_eq_some_iff.1 ha).1).trans ha) ((hba.block _ (Array.getElem?_eq_some_iff.1 hb).1).trans hb)
  have HB := Lib.hid hba
  clear ha hb hba
  go_enter Tryz.func89, Tryz.ntmps89
  go_wp2
  refine wp_loop_rounds 2 ?_
  rw [rounds_succ]
  go_wp2
  rw [rounds_succ]
  go_wp2
  go_ret
  exact ⟨rfl, HB.out⟩
end Go.Proofs.YtpmhmippoefcfaaGreatDoor
