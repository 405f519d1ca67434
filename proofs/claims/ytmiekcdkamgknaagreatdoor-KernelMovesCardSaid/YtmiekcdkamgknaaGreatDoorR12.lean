import Derived.Test.YtmiekcdkamgknaaGreatDoorR11
import Derived.Test.YtmiekcdkamgknaaGreatDoorProg
import Derived.LaidEql
import Derived.Stop.Asserts
import Derived.RowKitTokens
namespace Go.Proofs.YtmiekcdkamgknaaGreatDoor
open Go.RowKit Go.Shelf Go.Lib Go.Extern.Stop Go.Stop Go.Extern
abbrev faultV (n:Int):Value:= .iface 278 (.int .i64 n)
abbrev lostV (p:ByteArray)(n:Int):Value:= .iface 277 (.agg #[.string p,faultV n])
abbrev errTypeV:Value:= .iface 184 (.agg #[.pointer (some ⟨15,63,none⟩)])
abbrev hdl (t:TypeId):Value:= .pointer (some ⟨15,t,none⟩)
abbrev rtV (t:TypeId):Value:= .iface 184 (.agg #[hdl t])
theorem asValueOfP (t:Addr)(w:World):(ReflectliteValue.unpack (.iface 279 (.pointer (some t)))).run Tryz.prog w
 = .ok (.agg #[hdl 279, .pointer (some ⟨w.heap.size,0,none⟩), .int .u64 150]) (w.alloc (.cells #[.pointer (some t)] 279)):=by kernel_rfl
theorem asType (a:Addr)(w:World):(ReflectliteValue.methodAny (ReflectliteValue.valueError "reflectlite.Value.Type" 0) (fun t _ _ _=>ReflectliteType.toType t) #[.agg #[hdl 279, .pointer (some a), .int .u64 150]]).run Tryz.prog w
 = .ok (rtV 279) w:=by kernel_rfl
theorem asMethodKind (h:Value)(w:World):(Go.method 457 184 (.agg #[h]) "Kind").run Tryz.prog w = .ok (259,h) w:=by kernel_rfl
theorem asKindP (w:World):((ReflectliteType.abiMethod fun t=>(fun a:Nat=>Value.int IntKind.u8 (a:Int)) <$> Rtype.kind t) #[hdl 279]).run Tryz.prog w = .ok (.int .u8 22) w:=by kernel_rfl
theorem asKindF (w:World):((ReflectliteType.abiMethod fun t=>(fun a:Nat=>Value.int IntKind.u8 (a:Int)) <$> Rtype.kind t) #[hdl 278]).run Tryz.prog w = .ok (.int .u8 2) w:=by kernel_rfl
theorem rlm (z:Sem Value)(f:TypeId→Addr→Nat→Nat→Sem Value)(v:Value) :
 ReflectliteValue.method z f #[v]=(do match ←ReflectliteValue.parts v with | none=>z | some (t,a,fl)=>f t a fl (fl % 32)):=rfl
theorem asPartsP (a:Addr)(w:World):(ReflectliteValue.parts (.agg #[hdl 279, .pointer (some a), .int .u64 150])).run Tryz.prog w = .ok (some (279,a,150)) w:=by kernel_rfl
theorem asIsNil (a p:Addr)(W:World)(ha:W.cell? a=some (.pointer (some p))) :
 (ReflectliteValue.method (ReflectliteValue.valueError "reflectlite.Value.IsNil" 0) ReflectliteValue.isNil #[.agg #[hdl 279, .pointer (some a), .int .u64 150]]).run Tryz.prog W = .ok (.bool false) W:=by
  rw[rlm];simp only[Sem.run_bind,asPartsP,Result.andThen];simp[ReflectliteValue.isNil,loadVar,isAgg,underlying,Tryz.underlying279,ha,Result.andThen]
theorem asMethodElem (h:Value)(w:World):(Go.method 457 184 (.agg #[h]) "Elem").run Tryz.prog w = .ok (269, .agg #[h]) w:=by kernel_rfl
theorem asMethodImplements (h:Value)(w:World):(Go.method 457 184 (.agg #[h]) "Implements").run Tryz.prog w = .ok (270, .agg #[h]) w:=by kernel_rfl
theorem asMethodAssignableTo (h:Value)(w:World):(Go.method 457 184 (.agg #[h]) "AssignableTo").run Tryz.prog w = .ok (267, .agg #[h]) w:=by kernel_rfl
theorem asMethodUnwrap (v:Value)(w:World):(Go.method 457 277 v "Unwrap").run Tryz.prog w = .ok (283,v) w:=by kernel_rfl
theorem asElemT (w:World):(ReflectliteType.method ReflectliteType.elem #[.agg #[hdl 279]]).run Tryz.prog w = .ok (rtV 278) w:=by kernel_rfl
theorem asImplements (w:World):(ReflectliteType.relation "Implements" ReflectliteType.implements_ #[.agg #[hdl 278],rtV 63]).run Tryz.prog w = .ok (.bool true) w:=by kernel_rfl
theorem asTypeOfF (v:Value)(w:World):(ReflectliteType.typeOf #[.iface 278 v]).run Tryz.prog w = .ok (rtV 278) w:=by kernel_rfl
theorem asTypeOfL (v:Value)(w:World):(ReflectliteType.typeOf #[.iface 277 v]).run Tryz.prog w = .ok (rtV 277) w:=by kernel_rfl
theorem asAssignableF (w:World):(ReflectliteType.relation "AssignableTo" ReflectliteType.assignableTo #[.agg #[hdl 278],rtV 278]).run Tryz.prog w = .ok (.bool true) w:=by kernel_rfl
theorem asAssignableL (w:World):(ReflectliteType.relation "AssignableTo" ReflectliteType.assignableTo #[.agg #[hdl 277],rtV 278]).run Tryz.prog w = .ok (.bool false) w:=by kernel_rfl
theorem asValueOfF (n:Int)(w:World):(ReflectliteValue.unpack (faultV n)).run Tryz.prog w
 = .ok (.agg #[hdl 278, .pointer (some ⟨w.heap.size,0,none⟩), .int .u64 130]) (w.alloc (.cells #[.int .i64 n] 278)):=by kernel_rfl
theorem asElemOf (w:World):(Rtype.elem? 279).run Tryz.prog w = .ok (some 278) w:=by kernel_rfl
theorem asMkF (p:Addr)(w:World):(ReflectliteValue.mk 278 p ReflectliteValue.flagAddr).run Tryz.prog w = .ok (.agg #[hdl 278, .pointer (some p), .int .u64 386]) w:=by kernel_rfl
theorem asElemV (a p:Addr)(W:World)(ha:W.cell? a=some (.pointer (some p))) :
 (ReflectliteValue.method (ReflectliteValue.valueError "reflectlite.Value.Elem" 0) ReflectliteValue.elem #[.agg #[hdl 279, .pointer (some a), .int .u64 150]]).run Tryz.prog W
   = .ok (.agg #[hdl 278, .pointer (some p), .int .u64 386]) W:=by
 rw[rlm];simp only[Sem.run_bind,asPartsP,Result.andThen];simp[ReflectliteValue.elem,loadVar,isAgg,underlying,Tryz.underlying279,ha,Result.andThen,asElemOf,asMkF]
theorem rls (v x:Value):ReflectliteValue.set #[v,x]=(do
 let (some (dst,a,fl),some (src,b,_)):=(←ReflectliteValue.parts v,←ReflectliteValue.parts x)
  | unsupported (.noEntry "extern/(internal/reflectlite.Value).Set.zeroValue")
 if fl / ReflectliteValue.flagAddr % 2 == 0 then unsupported (.noEntry "extern/(internal/reflectlite.Value).Set.unaddressable")
 let val ←loadVar src b
 if ←Rtype.directlyAssignable dst src then storeVar dst a val
 else if ←Rtype.implements dst src then
  if(←Rtype.kind src) == 20 then
   match val with
   | .nilIface=>unsupported (.noEntry "extern/reflectlite: a nil value of one interface type handed on as a value of another")
   | _=>storeVar dst a val
  else storeVar dst a (.iface src val)
 else panicString ("reflectlite.Set: value of type " ++ (←Rtype.spelt src)++ " is not assignable to type " ++ (←Rtype.spelt dst))
 pure (.tuple #[])):=rfl
theorem asPartsA (a:Addr)(w:World):(ReflectliteValue.parts (.agg #[hdl 278, .pointer (some a), .int .u64 386])).run Tryz.prog w = .ok (some (278,a,386)) w:=by kernel_rfl
theorem asPartsF (a:Addr)(w:World):(ReflectliteValue.parts (.agg #[hdl 278, .pointer (some a), .int .u64 130])).run Tryz.prog w = .ok (some (278,a,130)) w:=by kernel_rfl
theorem asDirect (w:World):(Rtype.directlyAssignable 278 278).run Tryz.prog w = .ok true w:=by kernel_rfl
theorem asSet (ta b:Addr)(n:Int)(old:Value)(W:World)(hb:W.cell? b=some (.int .i64 n))(ht:W.cell? ta=some old)(hf:W.frozen? ta=false) :
 (ReflectliteValue.set #[.agg #[hdl 278, .pointer (some ta), .int .u64 386], .agg #[hdl 278, .pointer (some b), .int .u64 130]]).run Tryz.prog W
   = .ok (.tuple #[]) (W.setCell ta (.int .i64 n)):=by
 rw[rls];simp only[Sem.run_bind,asPartsA,asPartsF,Result.andThen];simp[ReflectliteValue.flagAddr,loadVar,isAgg,underlying,Tryz.underlying278,hb,Result.andThen,asDirect,storeVar,Value.cells,storeCells,Addr.add];rw[run_store Tryz.prog W ta _ _ (by rfl)];simp[ht,hf]
theorem asNoAsF (v:Value)(xT:TypeId)(w:World):(Instr.typeAssert (.iface 277 v) xT 189 true).run Tryz.prog w = .ok (.tuple #[.nilIface, .bool false]) w:=run_typeAssert_lacksB Tryz.underlying189 (by kernel_rfl) (by kernel_rfl) v xT w
theorem asHasUnwrap (v:Value)(xT:TypeId)(w:World):(Instr.typeAssert (.iface 277 v) xT 192 true).run Tryz.prog w = .ok (.tuple #[.iface 277 v, .bool true]) w:=run_typeAssert_hasB Tryz.underlying192 (by kernel_rfl) v xT w
def AsIs (t:Addr)(n:Int)(e:Ending)(w w':World):Prop:=e = .returned (.bool true)∧w'.cell? t=some (.int .i64 n)∧w.grownBy w' (some t.block)
theorem grown_set (w:World)(a:Addr)(u:Value):w.grownBy (w.setCell a u) (some a.block) :=
 ⟨rfl,rfl,rfl,by simp[World.setCell],fun k _ hne=>Below.heap_setCell _ _ _ _ (fun e=>hne (by rw[e]))⟩
theorem grown_tr {a b c:World}{row:Option Nat}(h:a.grownBy b row)(k:b.grownBy c row):a.grownBy c row :=
 ⟨k.os.trans h.os,k.tape.trans h.tape,k.output.trans h.output,Nat.le_trans h.size k.size,fun i hi hne=>(k.block i (Nat.lt_of_lt_of_le hi h.size) hne).trans (h.block i hi hne)⟩
theorem grown_al {a b:World}{row:Option Nat}(h:a.grownBy b row)(o:Obj):a.grownBy (b.alloc o) row :=
 grown_tr h ⟨rfl,rfl,rfl,by simp,fun k hk _=>Below.heap_alloc _ _ _ hk⟩
theorem grown_bel {a b:World}{row:Option Nat}(h:Below a.heap.size a b):a.grownBy b row:=⟨h.os,h.tape,h.output,h.size,fun i hi _=>h.block i hi⟩
theorem as_is {t:Addr}{n:Int}{old:Value}{w W:World}(hg:Below w.heap.size w W)(ht0:w.cell? t=some old):AsIs t n (.returned (.bool true)) w (W.setCell t (.int .i64 n)):=by
 have htl:=World.block_lt_of_cell? w t ht0;have hc:W.cell? t=some old:=(hg.cell htl).trans ht0;exact⟨rfl,World.cell?_setCell_same _ _ _ hc,grown_tr (grown_bel hg) (grown_set _ _ _)⟩
set_option maxHeartbeats 4000000 in
theorem as_fault (n:Int)(t:Addr)(old:Value)(w:World)(hg:w.cell? ⟨0,0,none⟩=some errTypeV)(ht0:w.cell? t=some old)(hf0:w.frozen? t=false) :
 Calls Tryz.prog 32 #[faultV n, .iface 279 (.pointer (some t))] w fun e w'=>AsIs t n e w w':=by
 have h6:=@run_callFunc_extern Tryz.prog 76 _ (fun args=>ReflectliteValue.unpack (args.getD 0 (.tuple #[]))) Tryz.func76 (by kernel_rfl) (by kernel_rfl) (by kernel_rfl) (by kernel_rfl);have h7:=@run_callFunc_extern Tryz.prog 77 _ (ReflectliteValue.methodAny (ReflectliteValue.valueError "reflectlite.Value.Type" 0) (fun t _ _ _=>ReflectliteType.toType t)) Tryz.func77 (by kernel_rfl) (by kernel_rfl) (by kernel_rfl) (by kernel_rfl);have h8:=@run_callFunc_extern Tryz.prog 78 _ (ReflectliteValue.method (ReflectliteValue.valueError "reflectlite.Value.IsNil" 0) ReflectliteValue.isNil) Tryz.func78 (by kernel_rfl) (by kernel_rfl) (by kernel_rfl) (by kernel_rfl);have h27:=@run_callFunc_extern Tryz.prog 259 _ (ReflectliteType.abiMethod fun t=>do pure (.int .u8 (←Rtype.kind t))) Tryz.func259 (by kernel_rfl) (by kernel_rfl) (by kernel_rfl) (by kernel_rfl);have h37:=@run_callFunc_extern Tryz.prog 269 _ (ReflectliteType.method ReflectliteType.elem) Tryz.func269 (by kernel_rfl) (by kernel_rfl) (by kernel_rfl) (by kernel_rfl);have h38:=@run_callFunc_extern Tryz.prog 270 _ (ReflectliteType.relation "Implements" ReflectliteType.implements_) Tryz.func270 (by kernel_rfl) (by kernel_rfl) (by kernel_rfl) (by kernel_rfl);have h10:=@run_callFunc_extern Tryz.prog 128 _ ReflectliteType.typeOf Tryz.func128 (by kernel_rfl) (by kernel_rfl) (by kernel_rfl) (by kernel_rfl);have h35:=@run_callFunc_extern Tryz.prog 267 _ (ReflectliteType.relation "AssignableTo" ReflectliteType.assignableTo) Tryz.func267 (by kernel_rfl) (by kernel_rfl) (by kernel_rfl) (by kernel_rfl)
 have h11:=@run_callFunc_extern Tryz.prog 129 _ (ReflectliteValue.method (ReflectliteValue.valueError "reflectlite.Value.Elem" 0) ReflectliteValue.elem) Tryz.func129 (by kernel_rfl) (by kernel_rfl) (by kernel_rfl) (by kernel_rfl);have h12:=@run_callFunc_extern Tryz.prog 130 _ ReflectliteValue.set Tryz.func130 (by kernel_rfl) (by kernel_rfl) (by kernel_rfl) (by kernel_rfl);have tF:=asTypeOfF;have mA:=asMethodAssignableTo;have aF:=asAssignableF;have vF:=asValueOfF n;have f6:=asValueOfP;have f7:=asType;have mK:=asMethodKind;have mE:=asMethodElem;have mI:=asMethodImplements;have kP:=asKindP;have kF:=asKindF;have eP:=asElemT;have iF:=asImplements;have n8:=asIsNil ⟨w.heap.size,0,none⟩ t ((w.alloc (.cells #[.pointer (some t)] 279)).alloc (.cells #[hdl 279, .pointer (some ⟨w.heap.size,0,none⟩), .int .u64 150] 125)) (by simp);have hlt:0<w.heap.size:=World.block_lt_of_cell? w _ hg;have htl:t.block<w.heap.size:=World.block_lt_of_cell? w t ht0
 have hg2:((w.alloc (.cells #[.pointer (some t)] 279)).alloc (.cells #[hdl 279, .pointer (some ⟨w.heap.size,0,none⟩), .int .u64 150] 125)).cell? ⟨0,0,none⟩=some errTypeV:=by
  rw[World.cell?_alloc_lt _ _ ⟨0,0,none⟩ (by simp<;>omega),World.cell?_alloc_lt _ _ ⟨0,0,none⟩ hlt];exact hg
 have el:=asElemV ⟨w.heap.size,0,none⟩ t (((w.alloc (.cells #[.pointer (some t)] 279)).alloc (.cells #[hdl 279, .pointer (some ⟨w.heap.size,0,none⟩), .int .u64 150] 125)).alloc (.cells #[hdl 279, .pointer (some ⟨w.heap.size,0,none⟩), .int .u64 150] 125)) (by rw[World.cell?_alloc_lt _ _ ⟨w.heap.size,0,none⟩ (by simp;omega)];simp)
 have st:=asSet t ⟨w.heap.size+1+1+1,0,none⟩ n old ((((w.alloc (.cells #[.pointer (some t)] 279)).alloc (.cells #[hdl 279, .pointer (some ⟨w.heap.size,0,none⟩), .int .u64 150] 125)).alloc (.cells #[hdl 279, .pointer (some ⟨w.heap.size,0,none⟩), .int .u64 150] 125)).alloc (.cells #[.int .i64 n] 278))
  (by rw[World.cell?_alloc_at _ _ _ _ (by simp)];rfl)
  (by rw[World.cell?_alloc_lt _ _ t (by simp;omega),World.cell?_alloc_lt _ _ t (by simp;omega),World.cell?_alloc_lt _ _ t (by simp;omega),World.cell?_alloc_lt _ _ t htl];exact ht0)
  (by rw[World.frozen?_alloc_old _ _ t (by simp;omega),World.frozen?_alloc_old _ _ t (by simp;omega),World.frozen?_alloc_old _ _ t (by simp;omega),World.frozen?_alloc_old _ _ t (Nat.ne_of_lt htl)];exact hf0)
 have hb:Below w.heap.size w ((((w.alloc (.cells #[.pointer (some t)] 279)).alloc (.cells #[hdl 279, .pointer (some ⟨w.heap.size,0,none⟩), .int .u64 150] 125)).alloc (.cells #[hdl 279, .pointer (some ⟨w.heap.size,0,none⟩), .int .u64 150] 125)).alloc (.cells #[.int .i64 n] 278)):=((((Below.refl _ w).alloc (Nat.le_refl _) _).alloc (by simp) _).alloc (by simp;omega) _).alloc (by simp;omega) _;have HB:=Lib.hid hb;have HT:=Lib.hid ht0;clear hb ht0 hf0;go_enter Tryz.func32,Tryz.ntmps32;go_wp2;refine wp_loop_rounds 1 ?_;rw[rounds_succ];go_wp2;go_ret;exact as_is HB.out HT.out
set_option maxHeartbeats 4000000 in
theorem as_lost (p:ByteArray)(n:Int)(t:Addr)(old:Value)(w:World)(hg:w.cell? ⟨0,0,none⟩=some errTypeV)(ht0:w.cell? t=some old)(hf0:w.frozen? t=false) :
 Calls Tryz.prog 32 #[lostV p n, .iface 279 (.pointer (some t))] w fun e w'=>AsIs t n e w w':=by
 have h6:=@run_callFunc_extern Tryz.prog 76 _ (fun args=>ReflectliteValue.unpack (args.getD 0 (.tuple #[]))) Tryz.func76 (by kernel_rfl) (by kernel_rfl) (by kernel_rfl) (by kernel_rfl);have h7:=@run_callFunc_extern Tryz.prog 77 _ (ReflectliteValue.methodAny (ReflectliteValue.valueError "reflectlite.Value.Type" 0) (fun t _ _ _=>ReflectliteType.toType t)) Tryz.func77 (by kernel_rfl) (by kernel_rfl) (by kernel_rfl) (by kernel_rfl);have h8:=@run_callFunc_extern Tryz.prog 78 _ (ReflectliteValue.method (ReflectliteValue.valueError "reflectlite.Value.IsNil" 0) ReflectliteValue.isNil) Tryz.func78 (by kernel_rfl) (by kernel_rfl) (by kernel_rfl) (by kernel_rfl);have h27:=@run_callFunc_extern Tryz.prog 259 _ (ReflectliteType.abiMethod fun t=>do pure (.int .u8 (←Rtype.kind t))) Tryz.func259 (by kernel_rfl) (by kernel_rfl) (by kernel_rfl) (by kernel_rfl);have h37:=@run_callFunc_extern Tryz.prog 269 _ (ReflectliteType.method ReflectliteType.elem) Tryz.func269 (by kernel_rfl) (by kernel_rfl) (by kernel_rfl) (by kernel_rfl);have h38:=@run_callFunc_extern Tryz.prog 270 _ (ReflectliteType.relation "Implements" ReflectliteType.implements_) Tryz.func270 (by kernel_rfl) (by kernel_rfl) (by kernel_rfl) (by kernel_rfl);have h10:=@run_callFunc_extern Tryz.prog 128 _ ReflectliteType.typeOf Tryz.func128 (by kernel_rfl) (by kernel_rfl) (by kernel_rfl) (by kernel_rfl);have h35:=@run_callFunc_extern Tryz.prog 267 _ (ReflectliteType.relation "AssignableTo" ReflectliteType.assignableTo) Tryz.func267 (by kernel_rfl) (by kernel_rfl) (by kernel_rfl) (by kernel_rfl)
 have h11:=@run_callFunc_extern Tryz.prog 129 _ (ReflectliteValue.method (ReflectliteValue.valueError "reflectlite.Value.Elem" 0) ReflectliteValue.elem) Tryz.func129 (by kernel_rfl) (by kernel_rfl) (by kernel_rfl) (by kernel_rfl);have h12:=@run_callFunc_extern Tryz.prog 130 _ ReflectliteValue.set Tryz.func130 (by kernel_rfl) (by kernel_rfl) (by kernel_rfl) (by kernel_rfl);have tF:=asTypeOfF;have mA:=asMethodAssignableTo;have aF:=asAssignableF;have vF:=asValueOfF n;have f6:=asValueOfP;have f7:=asType;have mK:=asMethodKind;have mE:=asMethodElem;have mI:=asMethodImplements;have kP:=asKindP;have kF:=asKindF;have eP:=asElemT;have iF:=asImplements;have tL:=asTypeOfL;have aL:=asAssignableL;have noA:=asNoAsF;have yesU:=asHasUnwrap;have mU:=asMethodUnwrap;have n8:=asIsNil ⟨w.heap.size,0,none⟩ t ((w.alloc (.cells #[.pointer (some t)] 279)).alloc (.cells #[hdl 279, .pointer (some ⟨w.heap.size,0,none⟩), .int .u64 150] 125)) (by simp);have hlt:0<w.heap.size:=World.block_lt_of_cell? w _ hg;have htl:t.block<w.heap.size:=World.block_lt_of_cell? w t ht0
 have hg2:((w.alloc (.cells #[.pointer (some t)] 279)).alloc (.cells #[hdl 279, .pointer (some ⟨w.heap.size,0,none⟩), .int .u64 150] 125)).cell? ⟨0,0,none⟩=some errTypeV:=by
  rw[World.cell?_alloc_lt _ _ ⟨0,0,none⟩ (by simp<;>omega),World.cell?_alloc_lt _ _ ⟨0,0,none⟩ hlt];exact hg
 have el:=asElemV ⟨w.heap.size,0,none⟩ t ((((w.alloc (.cells #[.pointer (some t)] 279)).alloc (.cells #[hdl 279, .pointer (some ⟨w.heap.size,0,none⟩), .int .u64 150] 125)).alloc (.cells #[hdl 279, .pointer (some ⟨w.heap.size,0,none⟩), .int .u64 150] 125)).alloc (.cells #[.string p,faultV n] 277)) (by rw[World.cell?_alloc_lt _ _ ⟨w.heap.size,0,none⟩ (by simp;omega),World.cell?_alloc_lt _ _ ⟨w.heap.size,0,none⟩ (by simp;omega)];simp)
 have st:=asSet t ⟨w.heap.size+1+1+1+1,0,none⟩ n old (((((w.alloc (.cells #[.pointer (some t)] 279)).alloc (.cells #[hdl 279, .pointer (some ⟨w.heap.size,0,none⟩), .int .u64 150] 125)).alloc (.cells #[hdl 279, .pointer (some ⟨w.heap.size,0,none⟩), .int .u64 150] 125)).alloc (.cells #[.string p,faultV n] 277)).alloc (.cells #[.int .i64 n] 278))
  (by rw[World.cell?_alloc_at _ _ _ _ (by simp)];rfl)
  (by rw[World.cell?_alloc_lt _ _ t (by simp;omega),World.cell?_alloc_lt _ _ t (by simp;omega),World.cell?_alloc_lt _ _ t (by simp;omega),World.cell?_alloc_lt _ _ t (by simp;omega),World.cell?_alloc_lt _ _ t htl];exact ht0)
  (by rw[World.frozen?_alloc_old _ _ t (by simp;omega),World.frozen?_alloc_old _ _ t (by simp;omega),World.frozen?_alloc_old _ _ t (by simp;omega),World.frozen?_alloc_old _ _ t (by simp;omega),World.frozen?_alloc_old _ _ t (Nat.ne_of_lt htl)];exact hf0)
 have hb:Below w.heap.size w (((((w.alloc (.cells #[.pointer (some t)] 279)).alloc (.cells #[hdl 279, .pointer (some ⟨w.heap.size,0,none⟩), .int .u64 150] 125)).alloc (.cells #[hdl 279, .pointer (some ⟨w.heap.size,0,none⟩), .int .u64 150] 125)).alloc (.cells #[.string p,faultV n] 277)).alloc (.cells #[.int .i64 n] 278)):=(((((Below.refl _ w).alloc (Nat.le_refl _) _).alloc (by simp) _).alloc (by simp;omega) _).alloc (by simp;omega) _).alloc (by simp;omega) _;have HB:=Lib.hid hb;have HT:=Lib.hid ht0;clear hb ht0 hf0;go_enter Tryz.func32,Tryz.ntmps32;go_wp2;refine wp_loop_rounds 2 ?_;rw[rounds_succ];go_wp2;rw[rounds_succ];go_wp2;go_ret;exact as_is HB.out HT.out
def NumIs (n:Int)(e:Ending)(w w':World):Prop:=e = .returned (.int .i64 n)∧Below w.heap.size w w'
theorem number_any (v:Value)(n:Int)(w:World)(hv:v=faultV n∨∃p,v=lostV p n)(hg:w.cell? ⟨0,0,none⟩=some errTypeV) :
 Calls Tryz.prog 176 #[v] w fun e w'=>NumIs n e w w':=by
 have hlt:0<w.heap.size:=World.block_lt_of_cell? w _ hg
 have hA:Calls Tryz.prog 32 #[v, .iface 279 (.pointer (some ⟨w.heap.size,0,none⟩))] (w.alloc (.cells #[.int .i64 0] 278)) fun e w'=>AsIs ⟨w.heap.size,0,none⟩ n e (w.alloc (.cells #[.int .i64 0] 278)) w':=by
  have hg1:(w.alloc (.cells #[.int .i64 0] 278)).cell? ⟨0,0,none⟩=some errTypeV:=by
   rw[World.cell?_alloc_lt _ _ ⟨0,0,none⟩ hlt];exact hg
  rcases hv with rfl | ⟨p,rfl⟩
  · exact as_fault n _ (.int .i64 0) _ hg1 (by simp) (by simp)
  · exact as_lost p n _ (.int .i64 0) _ hg1 (by simp) (by simp)
 have HA:=Lib.hid hA;clear hv hA;go_enter Tryz.func176,Tryz.ntmps176;go_wp2_with fail;refine HA.out.mono ?_;rintro e w1 ⟨rfl,hc,hgr⟩;have hb:Below w.heap.size w w1:=((Below.refl _ w).alloc (Nat.le_refl _) _).grown hgr (by simp) (fun k hk=>by cases hk;exact Nat.le_refl _);clear hgr;go_wp2_with fail;go_ret;exact⟨rfl,hb⟩
end Go.Proofs.YtmiekcdkamgknaaGreatDoor
