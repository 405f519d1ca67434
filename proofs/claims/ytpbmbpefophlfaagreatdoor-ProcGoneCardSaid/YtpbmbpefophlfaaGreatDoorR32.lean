import Derived.Test.YtpbmbpefophlfaaGreatDoorR17
import Derived.Test.YtpbmbpefophlfaaGreatDoorR31
import Derived.Test.YtpbmbpefophlfaaGreatDoorR25
import Derived.Deep.RegionHeld3
import Derived.Test.YtpbmbpefophlfaaGreatDoorR21
namespace Go.Proofs.YtpbmbpefophlfaaGreatDoor
open Go.RowKit Go.Shelf Go.Lib Go.Extern.Stop Go.Stop Go.Extern
abbrev kfaultV (n:Int):Value:= .iface 119 (.int .i64 n)
abbrev klostV (p:ByteArray)(n:Int):Value:= .iface 222 (.agg #[.string p,kfaultV n])
theorem kasValueOfP (t:Addr)(w:World):(ReflectliteValue.unpack (.iface 124 (.pointer (some t)))).run Tryz.prog w
 = .ok (.agg #[hdl 124, .pointer (some ⟨w.heap.size,0,none⟩), .int .u64 150]) (w.alloc (.cells #[.pointer (some t)] 124)):=by kernel_rfl
theorem kasType (a:Addr)(w:World):(ReflectliteValue.methodAny (ReflectliteValue.valueError "reflectlite.Value.Type" 0) (fun t _ _ _=>ReflectliteType.toType t) #[.agg #[hdl 124, .pointer (some a), .int .u64 150]]).run Tryz.prog w
 = .ok (rtV 124) w:=by kernel_rfl
theorem kasKindP (w:World):((ReflectliteType.abiMethod fun t=>(fun a:Nat=>Value.int IntKind.u8 (a:Int)) <$> Rtype.kind t) #[hdl 124]).run Tryz.prog w = .ok (.int .u8 22) w:=by kernel_rfl
theorem kasKindF (w:World):((ReflectliteType.abiMethod fun t=>(fun a:Nat=>Value.int IntKind.u8 (a:Int)) <$> Rtype.kind t) #[hdl 119]).run Tryz.prog w = .ok (.int .u8 2) w:=by kernel_rfl
theorem kasPartsP (a:Addr)(w:World):(ReflectliteValue.parts (.agg #[hdl 124, .pointer (some a), .int .u64 150])).run Tryz.prog w = .ok (some (124,a,150)) w:=by kernel_rfl
theorem kasIsNil (a p:Addr)(W:World)(ha:W.cell? a=some (.pointer (some p))) :
 (ReflectliteValue.method (ReflectliteValue.valueError "reflectlite.Value.IsNil" 0) ReflectliteValue.isNil #[.agg #[hdl 124, .pointer (some a), .int .u64 150]]).run Tryz.prog W = .ok (.bool false) W:=by
  rw[rlm];simp only[Sem.run_bind,kasPartsP,Result.andThen];simp[ReflectliteValue.isNil,loadVar,isAgg,underlying,Tryz.underlying124,ha,Result.andThen]
theorem kasMethodUnwrap (v:Value)(w:World):(Go.method 475 222 v "Unwrap").run Tryz.prog w = .ok (287,v) w:=by kernel_rfl
theorem kasElemT (w:World):(ReflectliteType.method ReflectliteType.elem #[.agg #[hdl 124]]).run Tryz.prog w = .ok (rtV 119) w:=by kernel_rfl
theorem kasImplements (w:World):(ReflectliteType.relation "Implements" ReflectliteType.implements_ #[.agg #[hdl 119],rtV 86]).run Tryz.prog w = .ok (.bool true) w:=by kernel_rfl
theorem kasTypeOfF (v:Value)(w:World):(ReflectliteType.typeOf #[.iface 119 v]).run Tryz.prog w = .ok (rtV 119) w:=by kernel_rfl
theorem kasTypeOfL (v:Value)(w:World):(ReflectliteType.typeOf #[.iface 222 v]).run Tryz.prog w = .ok (rtV 222) w:=by kernel_rfl
theorem kasAssignableF (w:World):(ReflectliteType.relation "AssignableTo" ReflectliteType.assignableTo #[.agg #[hdl 119],rtV 119]).run Tryz.prog w = .ok (.bool true) w:=by kernel_rfl
theorem kasAssignableL (w:World):(ReflectliteType.relation "AssignableTo" ReflectliteType.assignableTo #[.agg #[hdl 222],rtV 119]).run Tryz.prog w = .ok (.bool false) w:=by kernel_rfl
theorem kasValueOfF (n:Int)(w:World):(ReflectliteValue.unpack (kfaultV n)).run Tryz.prog w
 = .ok (.agg #[hdl 119, .pointer (some ⟨w.heap.size,0,none⟩), .int .u64 130]) (w.alloc (.cells #[.int .i64 n] 119)):=by kernel_rfl
theorem kasElemOf (w:World):(Rtype.elem? 124).run Tryz.prog w = .ok (some 119) w:=by kernel_rfl
theorem kasMkF (p:Addr)(w:World):(ReflectliteValue.mk 119 p ReflectliteValue.flagAddr).run Tryz.prog w = .ok (.agg #[hdl 119, .pointer (some p), .int .u64 386]) w:=by kernel_rfl
theorem kasElemV (a p:Addr)(W:World)(ha:W.cell? a=some (.pointer (some p))) :
 (ReflectliteValue.method (ReflectliteValue.valueError "reflectlite.Value.Elem" 0) ReflectliteValue.elem #[.agg #[hdl 124, .pointer (some a), .int .u64 150]]).run Tryz.prog W
   = .ok (.agg #[hdl 119, .pointer (some p), .int .u64 386]) W:=by
 rw[rlm];simp only[Sem.run_bind,kasPartsP,Result.andThen];simp[ReflectliteValue.elem,loadVar,isAgg,underlying,Tryz.underlying124,ha,Result.andThen,kasElemOf,kasMkF]
theorem kasPartsA (a:Addr)(w:World):(ReflectliteValue.parts (.agg #[hdl 119, .pointer (some a), .int .u64 386])).run Tryz.prog w = .ok (some (119,a,386)) w:=by kernel_rfl
theorem kasPartsF (a:Addr)(w:World):(ReflectliteValue.parts (.agg #[hdl 119, .pointer (some a), .int .u64 130])).run Tryz.prog w = .ok (some (119,a,130)) w:=by kernel_rfl
theorem kasDirect (w:World):(Rtype.directlyAssignable 119 119).run Tryz.prog w = .ok true w:=by kernel_rfl
theorem kasSet (ta b:Addr)(n:Int)(old:Value)(W:World)(hb:W.cell? b=some (.int .i64 n))(ht:W.cell? ta=some old)(hf:W.frozen? ta=false) :
 (ReflectliteValue.set #[.agg #[hdl 119, .pointer (some ta), .int .u64 386], .agg #[hdl 119, .pointer (some b), .int .u64 130]]).run Tryz.prog W
   = .ok (.tuple #[]) (W.setCell ta (.int .i64 n)):=by
 rw[rls];simp only[Sem.run_bind,kasPartsA,kasPartsF,Result.andThen];simp[ReflectliteValue.flagAddr,loadVar,isAgg,underlying,Tryz.underlying119,hb,Result.andThen,kasDirect,storeVar,Value.cells,storeCells,Addr.add];rw[run_store Tryz.prog W ta _ _ (by rfl)];simp[ht,hf]
theorem kasNoAsF (v:Value)(xT:TypeId)(w:World):(Instr.typeAssert (.iface 222 v) xT 212 true).run Tryz.prog w = .ok (.tuple #[.nilIface, .bool false]) w:=run_typeAssert_lacksB Tryz.underlying212 (by kernel_rfl) (by kernel_rfl) v xT w
theorem kasHasUnwrap (v:Value)(xT:TypeId)(w:World):(Instr.typeAssert (.iface 222 v) xT 215 true).run Tryz.prog w = .ok (.tuple #[.iface 222 v, .bool true]) w:=run_typeAssert_hasB Tryz.underlying215 (by kernel_rfl) v xT w
set_option maxHeartbeats 4000000 in
theorem kas_fault (n:Int)(t:Addr)(old:Value)(w:World)(hg:w.cell? ⟨0,0,none⟩=some errTypeV)(ht0:w.cell? t=some old)(hf0:w.frozen? t=false) :
 Calls Tryz.prog 48 #[kfaultV n, .iface 124 (.pointer (some t))] w fun e w'=>AsIs t n e w w':=by
 have h6:=@run_callFunc_extern Tryz.prog 93 _ (fun args=>ReflectliteValue.unpack (args.getD 0 (.tuple #[]))) Tryz.func93 (by kernel_rfl) (by kernel_rfl) (by kernel_rfl) (by kernel_rfl);have h7:=@run_callFunc_extern Tryz.prog 94 _ (ReflectliteValue.methodAny (ReflectliteValue.valueError "reflectlite.Value.Type" 0) (fun t _ _ _=>ReflectliteType.toType t)) Tryz.func94 (by kernel_rfl) (by kernel_rfl) (by kernel_rfl) (by kernel_rfl);have h8:=@run_callFunc_extern Tryz.prog 95 _ (ReflectliteValue.method (ReflectliteValue.valueError "reflectlite.Value.IsNil" 0) ReflectliteValue.isNil) Tryz.func95 (by kernel_rfl) (by kernel_rfl) (by kernel_rfl) (by kernel_rfl);have h27:=@run_callFunc_extern Tryz.prog 268 _ (ReflectliteType.abiMethod fun t=>do pure (.int .u8 (←Rtype.kind t))) Tryz.func268 (by kernel_rfl) (by kernel_rfl) (by kernel_rfl) (by kernel_rfl);have h37:=@run_callFunc_extern Tryz.prog 278 _ (ReflectliteType.method ReflectliteType.elem) Tryz.func278 (by kernel_rfl) (by kernel_rfl) (by kernel_rfl) (by kernel_rfl);have h38:=@run_callFunc_extern Tryz.prog 279 _ (ReflectliteType.relation "Implements" ReflectliteType.implements_) Tryz.func279 (by kernel_rfl) (by kernel_rfl) (by kernel_rfl) (by kernel_rfl);have h10:=@run_callFunc_extern Tryz.prog 142 _ ReflectliteType.typeOf Tryz.func142 (by kernel_rfl) (by kernel_rfl) (by kernel_rfl) (by kernel_rfl);have h35:=@run_callFunc_extern Tryz.prog 276 _ (ReflectliteType.relation "AssignableTo" ReflectliteType.assignableTo) Tryz.func276 (by kernel_rfl) (by kernel_rfl) (by kernel_rfl) (by kernel_rfl)
 have h11:=@run_callFunc_extern Tryz.prog 143 _ (ReflectliteValue.method (ReflectliteValue.valueError "reflectlite.Value.Elem" 0) ReflectliteValue.elem) Tryz.func143 (by kernel_rfl) (by kernel_rfl) (by kernel_rfl) (by kernel_rfl);have h12:=@run_callFunc_extern Tryz.prog 144 _ ReflectliteValue.set Tryz.func144 (by kernel_rfl) (by kernel_rfl) (by kernel_rfl) (by kernel_rfl);have tF:=kasTypeOfF;have mA:=asMethodAssignableTo;have aF:=kasAssignableF;have vF:=kasValueOfF n;have f6:=kasValueOfP;have f7:=kasType;have mK:=asMethodKind;have mE:=asMethodElem;have mI:=asMethodImplements;have kP:=kasKindP;have kF:=kasKindF;have eP:=kasElemT;have iF:=kasImplements;have n8:=kasIsNil ⟨w.heap.size,0,none⟩ t ((w.alloc (.cells #[.pointer (some t)] 124)).alloc (.cells #[hdl 124, .pointer (some ⟨w.heap.size,0,none⟩), .int .u64 150] 152)) (by simp);have hlt:0<w.heap.size:=World.block_lt_of_cell? w _ hg;have htl:t.block<w.heap.size:=World.block_lt_of_cell? w t ht0
 have hg2:((w.alloc (.cells #[.pointer (some t)] 124)).alloc (.cells #[hdl 124, .pointer (some ⟨w.heap.size,0,none⟩), .int .u64 150] 152)).cell? ⟨0,0,none⟩=some errTypeV:=by
  rw[World.cell?_alloc_lt _ _ ⟨0,0,none⟩ (by simp<;>omega),World.cell?_alloc_lt _ _ ⟨0,0,none⟩ hlt];exact hg
 have el:=kasElemV ⟨w.heap.size,0,none⟩ t (((w.alloc (.cells #[.pointer (some t)] 124)).alloc (.cells #[hdl 124, .pointer (some ⟨w.heap.size,0,none⟩), .int .u64 150] 152)).alloc (.cells #[hdl 124, .pointer (some ⟨w.heap.size,0,none⟩), .int .u64 150] 152)) (by rw[World.cell?_alloc_lt _ _ ⟨w.heap.size,0,none⟩ (by simp;omega)];simp)
 have st:=kasSet t ⟨w.heap.size+1+1+1,0,none⟩ n old ((((w.alloc (.cells #[.pointer (some t)] 124)).alloc (.cells #[hdl 124, .pointer (some ⟨w.heap.size,0,none⟩), .int .u64 150] 152)).alloc (.cells #[hdl 124, .pointer (some ⟨w.heap.size,0,none⟩), .int .u64 150] 152)).alloc (.cells #[.int .i64 n] 119))
  (by rw[World.cell?_alloc_at _ _ _ _ (by simp)];rfl)
  (by rw[World.cell?_alloc_lt _ _ t (by simp;omega),World.cell?_alloc_lt _ _ t (by simp;omega),World.cell?_alloc_lt _ _ t (by simp;omega),World.cell?_alloc_lt _ _ t htl];exact ht0)
  (by rw[World.frozen?_alloc_old _ _ t (by simp;omega),World.frozen?_alloc_old _ _ t (by simp;omega),World.frozen?_alloc_old _ _ t (by simp;omega),World.frozen?_alloc_old _ _ t (Nat.ne_of_lt htl)];exact hf0)
 have hb:Below w.heap.size w ((((w.alloc (.cells #[.pointer (some t)] 124)).alloc (.cells #[hdl 124, .pointer (some ⟨w.heap.size,0,none⟩), .int .u64 150] 152)).alloc (.cells #[hdl 124, .pointer (some ⟨w.heap.size,0,none⟩), .int .u64 150] 152)).alloc (.cells #[.int .i64 n] 119)):=((((Below.refl _ w).alloc (Nat.le_refl _) _).alloc (by simp) _).alloc (by simp;omega) _).alloc (by simp;omega) _;have HB:=Lib.hid hb;have HT:=Lib.hid ht0;clear hb ht0 hf0;go_enter Tryz.func48,Tryz.ntmps48;go_wp2;refine wp_loop_rounds 1 ?_;rw[rounds_succ];go_wp2;go_ret;exact as_is HB.out HT.out
set_option maxHeartbeats 4000000 in
theorem kas_lost (p:ByteArray)(n:Int)(t:Addr)(old:Value)(w:World)(hg:w.cell? ⟨0,0,none⟩=some errTypeV)(ht0:w.cell? t=some old)(hf0:w.frozen? t=false) :
 Calls Tryz.prog 48 #[klostV p n, .iface 124 (.pointer (some t))] w fun e w'=>AsIs t n e w w':=by
 have h6:=@run_callFunc_extern Tryz.prog 93 _ (fun args=>ReflectliteValue.unpack (args.getD 0 (.tuple #[]))) Tryz.func93 (by kernel_rfl) (by kernel_rfl) (by kernel_rfl) (by kernel_rfl);have h7:=@run_callFunc_extern Tryz.prog 94 _ (ReflectliteValue.methodAny (ReflectliteValue.valueError "reflectlite.Value.Type" 0) (fun t _ _ _=>ReflectliteType.toType t)) Tryz.func94 (by kernel_rfl) (by kernel_rfl) (by kernel_rfl) (by kernel_rfl);have h8:=@run_callFunc_extern Tryz.prog 95 _ (ReflectliteValue.method (ReflectliteValue.valueError "reflectlite.Value.IsNil" 0) ReflectliteValue.isNil) Tryz.func95 (by kernel_rfl) (by kernel_rfl) (by kernel_rfl) (by kernel_rfl);have h27:=@run_callFunc_extern Tryz.prog 268 _ (ReflectliteType.abiMethod fun t=>do pure (.int .u8 (←Rtype.kind t))) Tryz.func268 (by kernel_rfl) (by kernel_rfl) (by kernel_rfl) (by kernel_rfl);have h37:=@run_callFunc_extern Tryz.prog 278 _ (ReflectliteType.method ReflectliteType.elem) Tryz.func278 (by kernel_rfl) (by kernel_rfl) (by kernel_rfl) (by kernel_rfl);have h38:=@run_callFunc_extern Tryz.prog 279 _ (ReflectliteType.relation "Implements" ReflectliteType.implements_) Tryz.func279 (by kernel_rfl) (by kernel_rfl) (by kernel_rfl) (by kernel_rfl);have h10:=@run_callFunc_extern Tryz.prog 142 _ ReflectliteType.typeOf Tryz.func142 (by kernel_rfl) (by kernel_rfl) (by kernel_rfl) (by kernel_rfl);have h35:=@run_callFunc_extern Tryz.prog 276 _ (ReflectliteType.relation "AssignableTo" ReflectliteType.assignableTo) Tryz.func276 (by kernel_rfl) (by kernel_rfl) (by kernel_rfl) (by kernel_rfl)
 have h11:=@run_callFunc_extern Tryz.prog 143 _ (ReflectliteValue.method (ReflectliteValue.valueError "reflectlite.Value.Elem" 0) ReflectliteValue.elem) Tryz.func143 (by kernel_rfl) (by kernel_rfl) (by kernel_rfl) (by kernel_rfl);have h12:=@run_callFunc_extern Tryz.prog 144 _ ReflectliteValue.set Tryz.func144 (by kernel_rfl) (by kernel_rfl) (by kernel_rfl) (by kernel_rfl);have tF:=kasTypeOfF;have mA:=asMethodAssignableTo;have aF:=kasAssignableF;have vF:=kasValueOfF n;have f6:=kasValueOfP;have f7:=kasType;have mK:=asMethodKind;have mE:=asMethodElem;have mI:=asMethodImplements;have kP:=kasKindP;have kF:=kasKindF;have eP:=kasElemT;have iF:=kasImplements;have tL:=kasTypeOfL;have aL:=kasAssignableL;have noA:=kasNoAsF;have yesU:=kasHasUnwrap;have mU:=kasMethodUnwrap;have n8:=kasIsNil ⟨w.heap.size,0,none⟩ t ((w.alloc (.cells #[.pointer (some t)] 124)).alloc (.cells #[hdl 124, .pointer (some ⟨w.heap.size,0,none⟩), .int .u64 150] 152)) (by simp);have hlt:0<w.heap.size:=World.block_lt_of_cell? w _ hg;have htl:t.block<w.heap.size:=World.block_lt_of_cell? w t ht0
 have hg2:((w.alloc (.cells #[.pointer (some t)] 124)).alloc (.cells #[hdl 124, .pointer (some ⟨w.heap.size,0,none⟩), .int .u64 150] 152)).cell? ⟨0,0,none⟩=some errTypeV:=by
  rw[World.cell?_alloc_lt _ _ ⟨0,0,none⟩ (by simp<;>omega),World.cell?_alloc_lt _ _ ⟨0,0,none⟩ hlt];exact hg
 have el:=kasElemV ⟨w.heap.size,0,none⟩ t ((((w.alloc (.cells #[.pointer (some t)] 124)).alloc (.cells #[hdl 124, .pointer (some ⟨w.heap.size,0,none⟩), .int .u64 150] 152)).alloc (.cells #[hdl 124, .pointer (some ⟨w.heap.size,0,none⟩), .int .u64 150] 152)).alloc (.cells #[.string p,kfaultV n] 222)) (by rw[World.cell?_alloc_lt _ _ ⟨w.heap.size,0,none⟩ (by simp;omega),World.cell?_alloc_lt _ _ ⟨w.heap.size,0,none⟩ (by simp;omega)];simp)
 have st:=kasSet t ⟨w.heap.size+1+1+1+1,0,none⟩ n old (((((w.alloc (.cells #[.pointer (some t)] 124)).alloc (.cells #[hdl 124, .pointer (some ⟨w.heap.size,0,none⟩), .int .u64 150] 152)).alloc (.cells #[hdl 124, .pointer (some ⟨w.heap.size,0,none⟩), .int .u64 150] 152)).alloc (.cells #[.string p,kfaultV n] 222)).alloc (.cells #[.int .i64 n] 119))
  (by rw[World.cell?_alloc_at _ _ _ _ (by simp)];rfl)
  (by rw[World.cell?_alloc_lt _ _ t (by simp;omega),World.cell?_alloc_lt _ _ t (by simp;omega),World.cell?_alloc_lt _ _ t (by simp;omega),World.cell?_alloc_lt _ _ t (by simp;omega),World.cell?_alloc_lt _ _ t htl];exact ht0)
  (by rw[World.frozen?_alloc_old _ _ t (by simp;omega),World.frozen?_alloc_old _ _ t (by simp;omega),World.frozen?_alloc_old _ _ t (by simp;omega),World.frozen?_alloc_old _ _ t (by simp;omega),World.frozen?_alloc_old _ _ t (Nat.ne_of_lt htl)];exact hf0)
 have hb:Below w.heap.size w (((((w.alloc (.cells #[.pointer (some t)] 124)).alloc (.cells #[hdl 124, .pointer (some ⟨w.heap.size,0,none⟩), .int .u64 150] 152)).alloc (.cells #[hdl 124, .pointer (some ⟨w.heap.size,0,none⟩), .int .u64 150] 152)).alloc (.cells #[.string p,kfaultV n] 222)).alloc (.cells #[.int .i64 n] 119)):=(((((Below.refl _ w).alloc (Nat.le_refl _) _).alloc (by simp) _).alloc (by simp;omega) _).alloc (by simp;omega) _).alloc (by simp;omega) _;have HB:=Lib.hid hb;have HT:=Lib.hid ht0;clear hb ht0 hf0;go_enter Tryz.func48,Tryz.ntmps48;go_wp2;refine wp_loop_rounds 2 ?_;rw[rounds_succ];go_wp2;rw[rounds_succ];go_wp2;go_ret;exact as_is HB.out HT.out
theorem knumber_any (v:Value)(n:Int)(w:World)(hv:v=kfaultV n∨∃p,v=klostV p n)(hg:w.cell? ⟨0,0,none⟩=some errTypeV) :
 Calls Tryz.prog 25 #[v] w fun e w'=>NumIs n e w w':=by
 have hlt:0<w.heap.size:=World.block_lt_of_cell? w _ hg
 have hA:Calls Tryz.prog 48 #[v, .iface 124 (.pointer (some ⟨w.heap.size,0,none⟩))] (w.alloc (.cells #[.int .i64 0] 119)) fun e w'=>AsIs ⟨w.heap.size,0,none⟩ n e (w.alloc (.cells #[.int .i64 0] 119)) w':=by
  have hg1:(w.alloc (.cells #[.int .i64 0] 119)).cell? ⟨0,0,none⟩=some errTypeV:=by
   rw[World.cell?_alloc_lt _ _ ⟨0,0,none⟩ hlt];exact hg
  rcases hv with rfl | ⟨p,rfl⟩
  · exact kas_fault n _ (.int .i64 0) _ hg1 (by simp) (by simp)
  · exact kas_lost p n _ (.int .i64 0) _ hg1 (by simp) (by simp)
 have HA:=Lib.hid hA;clear hv hA;go_enter Tryz.func25,Tryz.ntmps25;go_wp2_with fail;refine HA.out.mono ?_;rintro e w1 ⟨rfl,hc,hgr⟩;have hb:Below w.heap.size w w1:=((Below.refl _ w).alloc (Nat.le_refl _) _).grown hgr (by simp) (fun k hk=>by cases hk;exact Nat.le_refl _);clear hgr;go_wp2_with fail;go_ret;exact⟨rfl,hb⟩
def ErrK (n:Int)(v:Value):Prop:=(n=0∧v = .nilIface)∨(n≠0∧(v=kfaultV n∨∃p,v=klostV p n))
theorem ErrK.nil:ErrK 0 .nilIface:= .inl ⟨rfl,rfl⟩
theorem ErrK.fault {n:Int}(h:n≠0):ErrK n (kfaultV n):= .inr ⟨h, .inl rfl⟩
theorem ErrK.failed {n:Int}(h:n≠0)(p:ByteArray):ErrK n (klostV p n):= .inr ⟨h, .inr ⟨p,rfl⟩⟩
theorem ErrK.ok {v:Value}(h:ErrK 0 v):v = .nilIface:=h.elim (·.2) fun h=>absurd rfl h.1
theorem ErrK.no {n:Int}{v:Value}(h:ErrK n v)(hn:n≠0) : ∃t x,v = .iface t x:=by
 rcases h with h | ⟨_,rfl | ⟨p,rfl⟩⟩
 · exact absurd h.1 hn
 · exact⟨_,_,rfl⟩
 · exact⟨_,_,rfl⟩
end Go.Proofs.YtpbmbpefophlfaaGreatDoor
namespace Go.Proofs.YtpbmbpefophlfaaGreatDoor
open Go.RowKit Go.Shelf
attribute [local go_sem ↓] Go.wp_at_zero Go.wp_at_succ
set_option maxRecDepth 100000 in
set_option maxHeartbeats 4000000 in
theorem pwrong_c (s:ByteArray)(n:Int)(w:World):Calls Tryz.prog 106 #[.string s, .int .i64 n] w fun e w'=>∃v,e = .returned v∧ErrK n v∧Below w.heap.size w w':=by
 have HB:=Lib.hid (Below.refl w.heap.size w);go_enter Tryz.func106,Tryz.ntmps106;by_cases h1:n=0
 · have i11:(n == 0)=true:=by simpa using h1
   have i12:decide (n=0)=true:=decide_eq_true h1;(have i13:(n != 0)=false:=by simpa using h1);have H1:=Lib.hid h1;clear h1;go_wp2_with fail;go_ret;exact⟨_,rfl,by rw[H1.out];exact ErrK.nil,HB.out⟩
 · have i11:(n == 0)=false:=by simpa using h1
   have i12:decide (n=0)=false:=decide_eq_false h1;(have i13:(n != 0)=true:=by simpa using h1);have H1:=Lib.hid h1;clear h1;go_wp2_with fail;go_ret;exact⟨_,rfl,ErrK.failed H1.out _,HB.out⟩
end Go.Proofs.YtpbmbpefophlfaaGreatDoor
namespace Go.Proofs.YtpbmbpefophlfaaGreatDoor
open Go.RowKit Go.Shelf
attribute [local go_sem ↓] Go.wp_at_zero Go.wp_at_succ
def inD (t:TabL)(i:Int):Bool:=decide (0≤i) && decide (i<t.ds.length)
set_option maxRecDepth 100000 in
set_option maxHeartbeats 4000000 in
theorem phas_c {X:Nat→Prop}(t:TabL)(ad af:Option Addr)(cap capf:Nat)(w:World)(hT:TabX t (.slice ad t.ds.length cap) (.slice af t.fs.length capf) X w)(p:Int) :
 Calls Tryz.prog 26 #[tabV ad t.ds.length cap af t.fs.length capf, .int .i64 p] w fun e w'=>e = .returned (.bool (inT t p))∧Below w.heap.size w w':=by
 have S0:=Lib.hid (Sf.start (w:=w) (X:=fun _=>False) (G:= [TabX t (.slice ad t.ds.length cap) (.slice af t.fs.length capf)]) (fun _ h=>h.elim) (th1 (TabX.firm _ _ _) ((TabX.firm _ _ _).sub hT fun _ h=>h.elim)));clear hT;go_enter Tryz.func26,Tryz.ntmps26;go_upto_region 1 with(fail);refine code_fresh1 ?_;intro W1 hb hA0 hs;have S1:=Lib.hid (S0.out.new1 hb hA0);clear hb hA0 hs;obtain⟨d0,d1⟩:=cells2 (S1.out.at 0 rfl);by_cases h1:p<0
 · have i1:decide (0≤p)=false:=decide_eq_false (by omega)
   have HB:Hid ((inT t p)=false):=Lib.hid (by unfold inT;rw[i1];rfl);go_wp2_with fail;go_ret;exact⟨by rw[HB.out];rfl,S1.out.bel⟩
 · have i1:decide (0≤p)=true:=decide_eq_true (by omega)
   obtain⟨a,rfl⟩:=Int.eq_ofNat_of_zero_le (show 0≤p by omega);(have a0:(0:Int)≤(a:Int):=by omega);clear h1;by_cases h2:a<t.fs.length
   · have iL1:decide (a<t.fs.length)=true:=decide_eq_true (by omega)
     have iM1:decide ((a:Int)<(t.fs.length:Int))=true:=decide_eq_true (by omega);have HB:Hid ((inT t (a:Int))=true):=Lib.hid (by unfold inT;rw[iM1,i1];rfl);clear i1 h2;go_wp2_with fail;go_ret;exact⟨by rw[HB.out];rfl,S1.out.bel⟩
   · have iL1:decide (a<t.fs.length)=false:=decide_eq_false (by omega)
     have iM1:decide ((a:Int)<(t.fs.length:Int))=false:=decide_eq_false (by omega);have HB:Hid ((inT t (a:Int))=false):=Lib.hid (by unfold inT;rw[iM1,i1];rfl);clear i1 h2;go_wp2_with fail;go_ret;exact⟨by rw[HB.out];rfl,S1.out.bel⟩
set_option maxRecDepth 100000 in
set_option maxHeartbeats 4000000 in
theorem phasD_c {X:Nat→Prop}(t:TabL)(ad af:Option Addr)(cap capf:Nat)(w:World)(hT:TabX t (.slice ad t.ds.length cap) (.slice af t.fs.length capf) X w)(p:Int) :
 Calls Tryz.prog 74 #[tabV ad t.ds.length cap af t.fs.length capf, .int .i64 p] w fun e w'=>e = .returned (.bool (inD t p))∧Below w.heap.size w w':=by
 have S0:=Lib.hid (Sf.start (w:=w) (X:=fun _=>False) (G:= [TabX t (.slice ad t.ds.length cap) (.slice af t.fs.length capf)]) (fun _ h=>h.elim) (th1 (TabX.firm _ _ _) ((TabX.firm _ _ _).sub hT fun _ h=>h.elim)));clear hT;go_enter Tryz.func74,Tryz.ntmps74;go_upto_region 1 with(fail);refine code_fresh1 ?_;intro W1 hb hA0 hs;have S1:=Lib.hid (S0.out.new1 hb hA0);clear hb hA0 hs;obtain⟨d0,d1⟩:=cells2 (S1.out.at 0 rfl);by_cases h1:p<0
 · have i1:decide (0≤p)=false:=decide_eq_false (by omega)
   have HB:Hid ((inD t p)=false):=Lib.hid (by unfold inD;rw[i1];rfl);go_wp2_with fail;go_ret;exact⟨by rw[HB.out];rfl,S1.out.bel⟩
 · have i1:decide (0≤p)=true:=decide_eq_true (by omega)
   obtain⟨a,rfl⟩:=Int.eq_ofNat_of_zero_le (show 0≤p by omega);(have a0:(0:Int)≤(a:Int):=by omega);clear h1;by_cases h2:a<t.ds.length
   · have iL1:decide (a<t.ds.length)=true:=decide_eq_true (by omega)
     have iM1:decide ((a:Int)<(t.ds.length:Int))=true:=decide_eq_true (by omega);have HB:Hid ((inD t (a:Int))=true):=Lib.hid (by unfold inD;rw[iM1,i1];rfl);clear i1 h2;go_wp2_with fail;go_ret;exact⟨by rw[HB.out];rfl,S1.out.bel⟩
   · have iL1:decide (a<t.ds.length)=false:=decide_eq_false (by omega)
     have iM1:decide ((a:Int)<(t.ds.length:Int))=false:=decide_eq_false (by omega);have HB:Hid ((inD t (a:Int))=false):=Lib.hid (by unfold inD;rw[iM1,i1];rfl);clear i1 h2;go_wp2_with fail;go_ret;exact⟨by rw[HB.out];rfl,S1.out.bel⟩
end Go.Proofs.YtpbmbpefophlfaaGreatDoor
