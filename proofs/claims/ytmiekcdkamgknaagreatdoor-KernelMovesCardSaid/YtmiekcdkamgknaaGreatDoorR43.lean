import Derived.Test.YtmiekcdkamgknaaGreatDoorR12
import Derived.Test.YtmiekcdkamgknaaGreatDoorR24
import Derived.Test.YtmiekcdkamgknaaGreatDoorR42
import Derived.Test.YtmiekcdkamgknaaGreatDoorR27
import Derived.Test.YtmiekcdkamgknaaGreatDoorR37
import Derived.Deep.RegionHeld3
import Derived.Test.YtmiekcdkamgknaaGreatDoorR32
namespace Go.Proofs.YtmiekcdkamgknaaGreatDoor
open Go.RowKit Go.Shelf Go.Lib Go.Extern.Stop Go.Stop Go.Extern
abbrev kfaultV (n:Int):Value:= .iface 94 (.int .i64 n)
abbrev klostV (p:ByteArray)(n:Int):Value:= .iface 200 (.agg #[.string p,kfaultV n])
theorem kasValueOfP (t:Addr)(w:World):(ReflectliteValue.unpack (.iface 99 (.pointer (some t)))).run Tryz.prog w
 = .ok (.agg #[hdl 99, .pointer (some ⟨w.heap.size,0,none⟩), .int .u64 150]) (w.alloc (.cells #[.pointer (some t)] 99)):=by kernel_rfl
theorem kasType (a:Addr)(w:World):(ReflectliteValue.methodAny (ReflectliteValue.valueError "reflectlite.Value.Type" 0) (fun t _ _ _=>ReflectliteType.toType t) #[.agg #[hdl 99, .pointer (some a), .int .u64 150]]).run Tryz.prog w
 = .ok (rtV 99) w:=by kernel_rfl
theorem kasKindP (w:World):((ReflectliteType.abiMethod fun t=>(fun a:Nat=>Value.int IntKind.u8 (a:Int)) <$> Rtype.kind t) #[hdl 99]).run Tryz.prog w = .ok (.int .u8 22) w:=by kernel_rfl
theorem kasKindF (w:World):((ReflectliteType.abiMethod fun t=>(fun a:Nat=>Value.int IntKind.u8 (a:Int)) <$> Rtype.kind t) #[hdl 94]).run Tryz.prog w = .ok (.int .u8 2) w:=by kernel_rfl
theorem kasPartsP (a:Addr)(w:World):(ReflectliteValue.parts (.agg #[hdl 99, .pointer (some a), .int .u64 150])).run Tryz.prog w = .ok (some (99,a,150)) w:=by kernel_rfl
theorem kasIsNil (a p:Addr)(W:World)(ha:W.cell? a=some (.pointer (some p))) :
 (ReflectliteValue.method (ReflectliteValue.valueError "reflectlite.Value.IsNil" 0) ReflectliteValue.isNil #[.agg #[hdl 99, .pointer (some a), .int .u64 150]]).run Tryz.prog W = .ok (.bool false) W:=by
  rw[rlm];simp only[Sem.run_bind,kasPartsP,Result.andThen];simp[ReflectliteValue.isNil,loadVar,isAgg,underlying,Tryz.underlying99,ha,Result.andThen]
theorem kasMethodUnwrap (v:Value)(w:World):(Go.method 457 200 v "Unwrap").run Tryz.prog w = .ok (278,v) w:=by kernel_rfl
theorem kasElemT (w:World):(ReflectliteType.method ReflectliteType.elem #[.agg #[hdl 99]]).run Tryz.prog w = .ok (rtV 94) w:=by kernel_rfl
theorem kasImplements (w:World):(ReflectliteType.relation "Implements" ReflectliteType.implements_ #[.agg #[hdl 94],rtV 63]).run Tryz.prog w = .ok (.bool true) w:=by kernel_rfl
theorem kasTypeOfF (v:Value)(w:World):(ReflectliteType.typeOf #[.iface 94 v]).run Tryz.prog w = .ok (rtV 94) w:=by kernel_rfl
theorem kasTypeOfL (v:Value)(w:World):(ReflectliteType.typeOf #[.iface 200 v]).run Tryz.prog w = .ok (rtV 200) w:=by kernel_rfl
theorem kasAssignableF (w:World):(ReflectliteType.relation "AssignableTo" ReflectliteType.assignableTo #[.agg #[hdl 94],rtV 94]).run Tryz.prog w = .ok (.bool true) w:=by kernel_rfl
theorem kasAssignableL (w:World):(ReflectliteType.relation "AssignableTo" ReflectliteType.assignableTo #[.agg #[hdl 200],rtV 94]).run Tryz.prog w = .ok (.bool false) w:=by kernel_rfl
theorem kasValueOfF (n:Int)(w:World):(ReflectliteValue.unpack (kfaultV n)).run Tryz.prog w
 = .ok (.agg #[hdl 94, .pointer (some ⟨w.heap.size,0,none⟩), .int .u64 130]) (w.alloc (.cells #[.int .i64 n] 94)):=by kernel_rfl
theorem kasElemOf (w:World):(Rtype.elem? 99).run Tryz.prog w = .ok (some 94) w:=by kernel_rfl
theorem kasMkF (p:Addr)(w:World):(ReflectliteValue.mk 94 p ReflectliteValue.flagAddr).run Tryz.prog w = .ok (.agg #[hdl 94, .pointer (some p), .int .u64 386]) w:=by kernel_rfl
theorem kasElemV (a p:Addr)(W:World)(ha:W.cell? a=some (.pointer (some p))) :
 (ReflectliteValue.method (ReflectliteValue.valueError "reflectlite.Value.Elem" 0) ReflectliteValue.elem #[.agg #[hdl 99, .pointer (some a), .int .u64 150]]).run Tryz.prog W
   = .ok (.agg #[hdl 94, .pointer (some p), .int .u64 386]) W:=by
 rw[rlm];simp only[Sem.run_bind,kasPartsP,Result.andThen];simp[ReflectliteValue.elem,loadVar,isAgg,underlying,Tryz.underlying99,ha,Result.andThen,kasElemOf,kasMkF]
theorem kasPartsA (a:Addr)(w:World):(ReflectliteValue.parts (.agg #[hdl 94, .pointer (some a), .int .u64 386])).run Tryz.prog w = .ok (some (94,a,386)) w:=by kernel_rfl
theorem kasPartsF (a:Addr)(w:World):(ReflectliteValue.parts (.agg #[hdl 94, .pointer (some a), .int .u64 130])).run Tryz.prog w = .ok (some (94,a,130)) w:=by kernel_rfl
theorem kasDirect (w:World):(Rtype.directlyAssignable 94 94).run Tryz.prog w = .ok true w:=by kernel_rfl
theorem kasSet (ta b:Addr)(n:Int)(old:Value)(W:World)(hb:W.cell? b=some (.int .i64 n))(ht:W.cell? ta=some old)(hf:W.frozen? ta=false) :
 (ReflectliteValue.set #[.agg #[hdl 94, .pointer (some ta), .int .u64 386], .agg #[hdl 94, .pointer (some b), .int .u64 130]]).run Tryz.prog W
   = .ok (.tuple #[]) (W.setCell ta (.int .i64 n)):=by
 rw[rls];simp only[Sem.run_bind,kasPartsA,kasPartsF,Result.andThen];simp[ReflectliteValue.flagAddr,loadVar,isAgg,underlying,Tryz.underlying94,hb,Result.andThen,kasDirect,storeVar,Value.cells,storeCells,Addr.add];rw[run_store Tryz.prog W ta _ _ (by rfl)];simp[ht,hf]
theorem kasNoAsF (v:Value)(xT:TypeId)(w:World):(Instr.typeAssert (.iface 200 v) xT 189 true).run Tryz.prog w = .ok (.tuple #[.nilIface, .bool false]) w:=run_typeAssert_lacksB Tryz.underlying189 (by kernel_rfl) (by kernel_rfl) v xT w
theorem kasHasUnwrap (v:Value)(xT:TypeId)(w:World):(Instr.typeAssert (.iface 200 v) xT 192 true).run Tryz.prog w = .ok (.tuple #[.iface 200 v, .bool true]) w:=run_typeAssert_hasB Tryz.underlying192 (by kernel_rfl) v xT w
set_option maxHeartbeats 4000000 in
theorem kas_fault (n:Int)(t:Addr)(old:Value)(w:World)(hg:w.cell? ⟨0,0,none⟩=some errTypeV)(ht0:w.cell? t=some old)(hf0:w.frozen? t=false) :
 Calls Tryz.prog 32 #[kfaultV n, .iface 99 (.pointer (some t))] w fun e w'=>AsIs t n e w w':=by
 have h6:=@run_callFunc_extern Tryz.prog 76 _ (fun args=>ReflectliteValue.unpack (args.getD 0 (.tuple #[]))) Tryz.func76 (by kernel_rfl) (by kernel_rfl) (by kernel_rfl) (by kernel_rfl);have h7:=@run_callFunc_extern Tryz.prog 77 _ (ReflectliteValue.methodAny (ReflectliteValue.valueError "reflectlite.Value.Type" 0) (fun t _ _ _=>ReflectliteType.toType t)) Tryz.func77 (by kernel_rfl) (by kernel_rfl) (by kernel_rfl) (by kernel_rfl);have h8:=@run_callFunc_extern Tryz.prog 78 _ (ReflectliteValue.method (ReflectliteValue.valueError "reflectlite.Value.IsNil" 0) ReflectliteValue.isNil) Tryz.func78 (by kernel_rfl) (by kernel_rfl) (by kernel_rfl) (by kernel_rfl);have h27:=@run_callFunc_extern Tryz.prog 259 _ (ReflectliteType.abiMethod fun t=>do pure (.int .u8 (←Rtype.kind t))) Tryz.func259 (by kernel_rfl) (by kernel_rfl) (by kernel_rfl) (by kernel_rfl);have h37:=@run_callFunc_extern Tryz.prog 269 _ (ReflectliteType.method ReflectliteType.elem) Tryz.func269 (by kernel_rfl) (by kernel_rfl) (by kernel_rfl) (by kernel_rfl);have h38:=@run_callFunc_extern Tryz.prog 270 _ (ReflectliteType.relation "Implements" ReflectliteType.implements_) Tryz.func270 (by kernel_rfl) (by kernel_rfl) (by kernel_rfl) (by kernel_rfl);have h10:=@run_callFunc_extern Tryz.prog 128 _ ReflectliteType.typeOf Tryz.func128 (by kernel_rfl) (by kernel_rfl) (by kernel_rfl) (by kernel_rfl);have h35:=@run_callFunc_extern Tryz.prog 267 _ (ReflectliteType.relation "AssignableTo" ReflectliteType.assignableTo) Tryz.func267 (by kernel_rfl) (by kernel_rfl) (by kernel_rfl) (by kernel_rfl)
 have h11:=@run_callFunc_extern Tryz.prog 129 _ (ReflectliteValue.method (ReflectliteValue.valueError "reflectlite.Value.Elem" 0) ReflectliteValue.elem) Tryz.func129 (by kernel_rfl) (by kernel_rfl) (by kernel_rfl) (by kernel_rfl);have h12:=@run_callFunc_extern Tryz.prog 130 _ ReflectliteValue.set Tryz.func130 (by kernel_rfl) (by kernel_rfl) (by kernel_rfl) (by kernel_rfl);have tF:=kasTypeOfF;have mA:=asMethodAssignableTo;have aF:=kasAssignableF;have vF:=kasValueOfF n;have f6:=kasValueOfP;have f7:=kasType;have mK:=asMethodKind;have mE:=asMethodElem;have mI:=asMethodImplements;have kP:=kasKindP;have kF:=kasKindF;have eP:=kasElemT;have iF:=kasImplements;have n8:=kasIsNil ⟨w.heap.size,0,none⟩ t ((w.alloc (.cells #[.pointer (some t)] 99)).alloc (.cells #[hdl 99, .pointer (some ⟨w.heap.size,0,none⟩), .int .u64 150] 125)) (by simp);have hlt:0<w.heap.size:=World.block_lt_of_cell? w _ hg;have htl:t.block<w.heap.size:=World.block_lt_of_cell? w t ht0
 have hg2:((w.alloc (.cells #[.pointer (some t)] 99)).alloc (.cells #[hdl 99, .pointer (some ⟨w.heap.size,0,none⟩), .int .u64 150] 125)).cell? ⟨0,0,none⟩=some errTypeV:=by
  rw[World.cell?_alloc_lt _ _ ⟨0,0,none⟩ (by simp<;>omega),World.cell?_alloc_lt _ _ ⟨0,0,none⟩ hlt];exact hg
 have el:=kasElemV ⟨w.heap.size,0,none⟩ t (((w.alloc (.cells #[.pointer (some t)] 99)).alloc (.cells #[hdl 99, .pointer (some ⟨w.heap.size,0,none⟩), .int .u64 150] 125)).alloc (.cells #[hdl 99, .pointer (some ⟨w.heap.size,0,none⟩), .int .u64 150] 125)) (by rw[World.cell?_alloc_lt _ _ ⟨w.heap.size,0,none⟩ (by simp;omega)];simp)
 have st:=kasSet t ⟨w.heap.size+1+1+1,0,none⟩ n old ((((w.alloc (.cells #[.pointer (some t)] 99)).alloc (.cells #[hdl 99, .pointer (some ⟨w.heap.size,0,none⟩), .int .u64 150] 125)).alloc (.cells #[hdl 99, .pointer (some ⟨w.heap.size,0,none⟩), .int .u64 150] 125)).alloc (.cells #[.int .i64 n] 94))
  (by rw[World.cell?_alloc_at _ _ _ _ (by simp)];rfl)
  (by rw[World.cell?_alloc_lt _ _ t (by simp;omega),World.cell?_alloc_lt _ _ t (by simp;omega),World.cell?_alloc_lt _ _ t (by simp;omega),World.cell?_alloc_lt _ _ t htl];exact ht0)
  (by rw[World.frozen?_alloc_old _ _ t (by simp;omega),World.frozen?_alloc_old _ _ t (by simp;omega),World.frozen?_alloc_old _ _ t (by simp;omega),World.frozen?_alloc_old _ _ t (Nat.ne_of_lt htl)];exact hf0)
 have hb:Below w.heap.size w ((((w.alloc (.cells #[.pointer (some t)] 99)).alloc (.cells #[hdl 99, .pointer (some ⟨w.heap.size,0,none⟩), .int .u64 150] 125)).alloc (.cells #[hdl 99, .pointer (some ⟨w.heap.size,0,none⟩), .int .u64 150] 125)).alloc (.cells #[.int .i64 n] 94)):=((((Below.refl _ w).alloc (Nat.le_refl _) _).alloc (by simp) _).alloc (by simp;omega) _).alloc (by simp;omega) _;have HB:=zd hb;have HT:=zd ht0;clear hb ht0 hf0;go_enter Tryz.func32,Tryz.ntmps32;go_wp2;refine wp_loop_rounds 1 ?_;rw[rounds_succ];go_wp2;go_ret;exact as_is HB.out HT.out
set_option maxHeartbeats 4000000 in
theorem kas_lost (p:ByteArray)(n:Int)(t:Addr)(old:Value)(w:World)(hg:w.cell? ⟨0,0,none⟩=some errTypeV)(ht0:w.cell? t=some old)(hf0:w.frozen? t=false) :
 Calls Tryz.prog 32 #[klostV p n, .iface 99 (.pointer (some t))] w fun e w'=>AsIs t n e w w':=by
 have h6:=@run_callFunc_extern Tryz.prog 76 _ (fun args=>ReflectliteValue.unpack (args.getD 0 (.tuple #[]))) Tryz.func76 (by kernel_rfl) (by kernel_rfl) (by kernel_rfl) (by kernel_rfl);have h7:=@run_callFunc_extern Tryz.prog 77 _ (ReflectliteValue.methodAny (ReflectliteValue.valueError "reflectlite.Value.Type" 0) (fun t _ _ _=>ReflectliteType.toType t)) Tryz.func77 (by kernel_rfl) (by kernel_rfl) (by kernel_rfl) (by kernel_rfl);have h8:=@run_callFunc_extern Tryz.prog 78 _ (ReflectliteValue.method (ReflectliteValue.valueError "reflectlite.Value.IsNil" 0) ReflectliteValue.isNil) Tryz.func78 (by kernel_rfl) (by kernel_rfl) (by kernel_rfl) (by kernel_rfl);have h27:=@run_callFunc_extern Tryz.prog 259 _ (ReflectliteType.abiMethod fun t=>do pure (.int .u8 (←Rtype.kind t))) Tryz.func259 (by kernel_rfl) (by kernel_rfl) (by kernel_rfl) (by kernel_rfl);have h37:=@run_callFunc_extern Tryz.prog 269 _ (ReflectliteType.method ReflectliteType.elem) Tryz.func269 (by kernel_rfl) (by kernel_rfl) (by kernel_rfl) (by kernel_rfl);have h38:=@run_callFunc_extern Tryz.prog 270 _ (ReflectliteType.relation "Implements" ReflectliteType.implements_) Tryz.func270 (by kernel_rfl) (by kernel_rfl) (by kernel_rfl) (by kernel_rfl);have h10:=@run_callFunc_extern Tryz.prog 128 _ ReflectliteType.typeOf Tryz.func128 (by kernel_rfl) (by kernel_rfl) (by kernel_rfl) (by kernel_rfl);have h35:=@run_callFunc_extern Tryz.prog 267 _ (ReflectliteType.relation "AssignableTo" ReflectliteType.assignableTo) Tryz.func267 (by kernel_rfl) (by kernel_rfl) (by kernel_rfl) (by kernel_rfl)
 have h11:=@run_callFunc_extern Tryz.prog 129 _ (ReflectliteValue.method (ReflectliteValue.valueError "reflectlite.Value.Elem" 0) ReflectliteValue.elem) Tryz.func129 (by kernel_rfl) (by kernel_rfl) (by kernel_rfl) (by kernel_rfl);have h12:=@run_callFunc_extern Tryz.prog 130 _ ReflectliteValue.set Tryz.func130 (by kernel_rfl) (by kernel_rfl) (by kernel_rfl) (by kernel_rfl);have tF:=kasTypeOfF;have mA:=asMethodAssignableTo;have aF:=kasAssignableF;have vF:=kasValueOfF n;have f6:=kasValueOfP;have f7:=kasType;have mK:=asMethodKind;have mE:=asMethodElem;have mI:=asMethodImplements;have kP:=kasKindP;have kF:=kasKindF;have eP:=kasElemT;have iF:=kasImplements;have tL:=kasTypeOfL;have aL:=kasAssignableL;have noA:=kasNoAsF;have yesU:=kasHasUnwrap;have mU:=kasMethodUnwrap;have n8:=kasIsNil ⟨w.heap.size,0,none⟩ t ((w.alloc (.cells #[.pointer (some t)] 99)).alloc (.cells #[hdl 99, .pointer (some ⟨w.heap.size,0,none⟩), .int .u64 150] 125)) (by simp);have hlt:0<w.heap.size:=World.block_lt_of_cell? w _ hg;have htl:t.block<w.heap.size:=World.block_lt_of_cell? w t ht0
 have hg2:((w.alloc (.cells #[.pointer (some t)] 99)).alloc (.cells #[hdl 99, .pointer (some ⟨w.heap.size,0,none⟩), .int .u64 150] 125)).cell? ⟨0,0,none⟩=some errTypeV:=by
  rw[World.cell?_alloc_lt _ _ ⟨0,0,none⟩ (by simp<;>omega),World.cell?_alloc_lt _ _ ⟨0,0,none⟩ hlt];exact hg
 have el:=kasElemV ⟨w.heap.size,0,none⟩ t ((((w.alloc (.cells #[.pointer (some t)] 99)).alloc (.cells #[hdl 99, .pointer (some ⟨w.heap.size,0,none⟩), .int .u64 150] 125)).alloc (.cells #[hdl 99, .pointer (some ⟨w.heap.size,0,none⟩), .int .u64 150] 125)).alloc (.cells #[.string p,kfaultV n] 200)) (by rw[World.cell?_alloc_lt _ _ ⟨w.heap.size,0,none⟩ (by simp;omega),World.cell?_alloc_lt _ _ ⟨w.heap.size,0,none⟩ (by simp;omega)];simp)
 have st:=kasSet t ⟨w.heap.size+1+1+1+1,0,none⟩ n old (((((w.alloc (.cells #[.pointer (some t)] 99)).alloc (.cells #[hdl 99, .pointer (some ⟨w.heap.size,0,none⟩), .int .u64 150] 125)).alloc (.cells #[hdl 99, .pointer (some ⟨w.heap.size,0,none⟩), .int .u64 150] 125)).alloc (.cells #[.string p,kfaultV n] 200)).alloc (.cells #[.int .i64 n] 94))
  (by rw[World.cell?_alloc_at _ _ _ _ (by simp)];rfl)
  (by rw[World.cell?_alloc_lt _ _ t (by simp;omega),World.cell?_alloc_lt _ _ t (by simp;omega),World.cell?_alloc_lt _ _ t (by simp;omega),World.cell?_alloc_lt _ _ t (by simp;omega),World.cell?_alloc_lt _ _ t htl];exact ht0)
  (by rw[World.frozen?_alloc_old _ _ t (by simp;omega),World.frozen?_alloc_old _ _ t (by simp;omega),World.frozen?_alloc_old _ _ t (by simp;omega),World.frozen?_alloc_old _ _ t (by simp;omega),World.frozen?_alloc_old _ _ t (Nat.ne_of_lt htl)];exact hf0)
 have hb:Below w.heap.size w (((((w.alloc (.cells #[.pointer (some t)] 99)).alloc (.cells #[hdl 99, .pointer (some ⟨w.heap.size,0,none⟩), .int .u64 150] 125)).alloc (.cells #[hdl 99, .pointer (some ⟨w.heap.size,0,none⟩), .int .u64 150] 125)).alloc (.cells #[.string p,kfaultV n] 200)).alloc (.cells #[.int .i64 n] 94)):=(((((Below.refl _ w).alloc (Nat.le_refl _) _).alloc (by simp) _).alloc (by simp;omega) _).alloc (by simp;omega) _).alloc (by simp;omega) _;have HB:=zd hb;have HT:=zd ht0;clear hb ht0 hf0;go_enter Tryz.func32,Tryz.ntmps32;go_wp2;refine wp_loop_rounds 2 ?_;rw[rounds_succ];go_wp2;rw[rounds_succ];go_wp2;go_ret;exact as_is HB.out HT.out
theorem knumber_any (v:Value)(n:Int)(w:World)(hv:v=kfaultV n∨∃p,v=klostV p n)(hg:w.cell? ⟨0,0,none⟩=some errTypeV) :
 Calls Tryz.prog 15 #[v] w fun e w'=>NumIs n e w w':=by
 have hlt:0<w.heap.size:=World.block_lt_of_cell? w _ hg
 have hA:Calls Tryz.prog 32 #[v, .iface 99 (.pointer (some ⟨w.heap.size,0,none⟩))] (w.alloc (.cells #[.int .i64 0] 94)) fun e w'=>AsIs ⟨w.heap.size,0,none⟩ n e (w.alloc (.cells #[.int .i64 0] 94)) w':=by
  have hg1:(w.alloc (.cells #[.int .i64 0] 94)).cell? ⟨0,0,none⟩=some errTypeV:=by
   rw[World.cell?_alloc_lt _ _ ⟨0,0,none⟩ hlt];exact hg
  rcases hv with rfl | ⟨p,rfl⟩
  · exact kas_fault n _ (.int .i64 0) _ hg1 (by simp) (by simp)
  · exact kas_lost p n _ (.int .i64 0) _ hg1 (by simp) (by simp)
 have HA:=zd hA;clear hv hA;go_enter Tryz.func15,Tryz.ntmps15;go_wp2_with fail;refine HA.out.mono ?_;rintro e w1 ⟨rfl,hc,hgr⟩;have hb:Below w.heap.size w w1:=((Below.refl _ w).alloc (Nat.le_refl _) _).grown hgr (by simp) (fun k hk=>by cases hk;exact Nat.le_refl _);clear hgr;go_wp2_with fail;go_ret;exact⟨rfl,hb⟩
def ErrK (n:Int)(v:Value):Prop:=(n=0∧v = .nilIface)∨(n≠0∧(v=kfaultV n∨∃p,v=klostV p n))
theorem ErrK.nil:ErrK 0 .nilIface:= .inl ⟨rfl,rfl⟩
theorem ErrK.fault {n:Int}(h:n≠0):ErrK n (kfaultV n):= .inr ⟨h, .inl rfl⟩
theorem ErrK.failed {n:Int}(h:n≠0)(p:ByteArray):ErrK n (klostV p n):= .inr ⟨h, .inr ⟨p,rfl⟩⟩
theorem ErrK.ok {v:Value}(h:ErrK 0 v):v = .nilIface:=h.elim (·.2) fun h=>absurd rfl h.1
theorem ErrK.no {n:Int}{v:Value}(h:ErrK n v)(hn:n≠0) : ∃t x,v = .iface t x:=by
 rcases h with h | ⟨_,rfl | ⟨p,rfl⟩⟩
 · exact absurd h.1 hn
 · exact⟨_,_,rfl⟩
 · exact⟨_,_,rfl⟩
end Go.Proofs.YtmiekcdkamgknaaGreatDoor
namespace Go.Proofs.YtmiekcdkamgknaaGreatDoor
open Go.RowKit Go.Shelf
attribute [local go_sem ↓] Go.wp_at_zero Go.wp_at_succ
theorem fld_who (a u d:Int)(v:Value)(W:World):(Instr.field 74 (.agg #[.int .i64 a, .int .i64 u, .int .i64 d,v]) 0).run Tryz.prog W = .ok (.int .i64 a) W:=by
 have u:=Tryz.underlying74;unfold Instr.field;go_simp;rfl
theorem fld_cwd (a u d:Int)(v:Value)(W:World):(Instr.field 74 (.agg #[.int .i64 a, .int .i64 u, .int .i64 d,v]) 2).run Tryz.prog W = .ok (.int .i64 d) W:=by
 have u:=Tryz.underlying74;unfold Instr.field;go_simp;rfl
section
variable {ps:List ProcL} {X:Nat→Prop} {W:World} {b off cp:Nat}
theorem PsX.rng (h:PsX ps (.slice (some ⟨b,off,none⟩) ps.length cp) X W)(a:Nat)(ha:a<ps.length):W.rangeAt b (off+a*4) (prcells ps[a]):=by
 obtain⟨b',o',e,hr⟩:=h.range a ha;injection e with e;injection e with e1 e2 _;subst e1;subst e2;exact hr
end
set_option maxRecDepth 100000 in
set_option maxHeartbeats 4000000 in
theorem pproc_c (X:Nat→Prop)(S:Nat→Addr)(k:KernL)(a:Nat)(c:CallL)(ao ad af ap:Option Addr)(co cd cf cp:Nat)(bw:Nat)(w:World)  (hX:Old X w)(hq:X bw)(hW:w.heap[bw]? = some (.cells #[.slice ao k.l.length co, .int .i64 k.most, .int .i64 k.room, .slice ad k.t.ds.length cd, .slice af k.t.fs.length cf, .slice ap k.ps.length cp, .int .i64 (a:Int), .int .i64 c.kind, .int .i64 c.fd, .int .i64 c.fd2, .int .i64 c.n, .int .i64 c.mode, .int .i64 c.flags, .string (bs c.path), .string (bs c.path2), .string (bs c.data)] 61 (0,0)))(hD:DiskX k.l (.slice ao k.l.length co) X w)(hT:TabX k.t (.slice ad k.t.ds.length cd) (.slice af k.t.fs.length cf) X w)(hP:PsX k.ps (.slice ap k.ps.length cp) X w)(hE:EnvX S X w)(ha:a<k.ps.length) :
 Calls Tryz.prog 152 #[.pointer (some ⟨bw,0,none⟩)] w fun e w'=>e = .returned (.agg #[.int .i64 (procL k.ps a).who, .int .i64 (procL k.ps a).umask, .int .i64 (procL k.ps a).cwd, .bool (procL k.ps a).live])∧Below w.heap.size w w':=by
 obtain⟨bp,offp,eap, -⟩:=PsX.proc hP a ha;subst eap;obtain⟨x,hx⟩ : ∃x,x=k.ps[a]:=⟨_,rfl⟩;have HXP:=zd hx;clear hx;have S0:=zd (Sw.start (G:= [DiskX k.l (.slice ao k.l.length co),TabX k.t (.slice ad k.t.ds.length cd) (.slice af k.t.fs.length cf),PsX k.ps (.slice (some ⟨bp,offp,none⟩) k.ps.length cp),EnvX S]) hX hq hW (th4 (DiskX.firm _ _) hD (TabX.firm _ _ _) hT (PsX.firm _ _) hP (EnvX.firm _) hE));have HW:=zd hW;have HA:=zd ha;(have a0:(0:Int)≤(a:Int):=by omega);have a1:(a:Int)<(k.ps.length:Int):=by omega
 have HRET:Hid (∀(W:World) (cs:Array Value) (fr),W.heap[w.heap.size+0]? = some (.cells cs 74 fr)→cs.size=4→∀tmps:Array Value,tmps.getD 2 undef = .pointer (some ⟨w.heap.size+0,0,none⟩)→(results Tryz.f152 tmps).run Tryz.prog W = .ok (.agg cs) W):=zd fun W cs fr h hs tmps ht =>
  results_cell_row (p:=2)  (ty:=74) rfl tmps W (w.heap.size+0) _ cs fr _ ht h Tryz.underlying74 rfl (by rw[hs];kernel_rfl)
 clear hX hq hW hD hT hP hE;go_enter Tryz.func152,Tryz.ntmps152;go_upto_region 1 with(fail);refine code_fresh1 ?_;intro W1 hb hA0 hs;have S1:=zd (S0.out.new1 hb hA0);clear hb hA0 hs;have h_wk:=(S1.out.at 0 rfl);refine wp_region_held_drew (S:=fun W=>W.heap[bw]? = some (.cells #[.slice ao k.l.length co, .int .i64 k.most, .int .i64 k.room, .slice ad k.t.ds.length cd, .slice af k.t.fs.length cf, .slice (some ⟨bp,offp,none⟩) k.ps.length cp, .int .i64 (a:Int), .int .i64 c.kind, .int .i64 c.fd, .int .i64 c.fd2, .int .i64 c.n, .int .i64 c.mode, .int .i64 c.flags, .string (bs c.path), .string (bs c.path2), .string (bs c.data)] 61 (0,0))∧W.rangeAt bp (offp+a*4) [.int .i64 x.who, .int .i64 x.umask, .int .i64 x.cwd, .bool x.live]∧True) (by kernel_rfl) ⟨(S1.out.at 0 rfl),(by rw[HXP.out];exact PsX.rng (S1.out.g 2 rfl) a HA.out),trivial⟩ (fun hHeld=> ?_);clear h_wk;have S2:=zd (S1.out.call (Below.refl W1.heap.size W1).drew);generalize W1.drew=W2 at *;refine zY 0 ?_;refine zY 1 ?_;refine zY 2 ?_;refine zY 3 ?_;refine zZ 4 (fun _ hSw=>(cells16 hSw.1).2.2.2.2.2.1) ?_;refine zY 5 ?_;refine zY 6 ?_;refine zY 7 ?_;refine zZ 8 (fun _ hSw=>(cells16 hSw.1).2.2.2.2.2.2.1) ?_;refine zY 9 ?_;refine zM 10 Tryz.underlying74 (fun _ h=>h.2.1) ?_;(refine zO 11 fun K hK=> ?_);rw[if_pos (by rfl)];refine zh (S2.out.at 1 rfl) ?_;intro W3 hb hg hs hn;have S3:=zd (S2.out.set 1 rfl hb hg hs hn);clear hb hg hs hn hHeld;refine hK.out _ _ ⟨(S3.out.at 0 rfl),(by rw[HXP.out];exact PsX.rng (S3.out.g 2 rfl) a HA.out),trivial⟩ (fun hHeld=> ?_)
 clear hK K;(try simp only[pt,Act.put]);refine wpAnyH_done (by kernel_rfl) ?_ _;go_wp2_with fail;refine bodyPost_ret (HRET.out _ _ _ (S3.out.at 1 rfl) rfl _ rfl) rfl ?_;rw[(live_at HA.out).2,←HXP.out];exact⟨rfl,S3.out.same 0 rfl HW.out⟩
set_option maxRecDepth 100000 in
set_option maxHeartbeats 4000000 in
theorem pasks_c (X:Nat→Prop)(S:Nat→Addr)(k:KernL)(a:Nat)(c:CallL)(ao ad af ap:Option Addr)(co cd cf cp:Nat)(bw:Nat)(w:World)(f:Int)(hX:Old X w)(hq:X bw)(hW:w.heap[bw]? = some (.cells #[.slice ao k.l.length co, .int .i64 k.most, .int .i64 k.room, .slice ad k.t.ds.length cd, .slice af k.t.fs.length cf, .slice ap k.ps.length cp, .int .i64 (a:Int), .int .i64 c.kind, .int .i64 c.fd, .int .i64 c.fd2, .int .i64 c.n, .int .i64 c.mode, .int .i64 c.flags, .string (bs c.path), .string (bs c.path2), .string (bs c.data)] 61 (0,0)))(hD:DiskX k.l (.slice ao k.l.length co) X w)(hT:TabX k.t (.slice ad k.t.ds.length cd) (.slice af k.t.fs.length cf) X w)(hP:PsX k.ps (.slice ap k.ps.length cp) X w)(hE:EnvX S X w)  :
 Calls Tryz.prog 91 #[.pointer (some ⟨bw,0,none⟩), .int .i64 f] w fun e w'=>e = .returned (.bool (askB c.flags f))∧Below w.heap.size w w':=by
 have S0:=zd (Sw.start (G:= [DiskX k.l (.slice ao k.l.length co),TabX k.t (.slice ad k.t.ds.length cd) (.slice af k.t.fs.length cf),PsX k.ps (.slice ap k.ps.length cp),EnvX S]) hX hq hW (th4 (DiskX.firm _ _) hD (TabX.firm _ _ _) hT (PsX.firm _ _) hP (EnvX.firm _) hE));have HW:=zd hW;clear hX hq hW hD hT hP hE;go_enter Tryz.func91,Tryz.ntmps91;obtain⟨n,hn⟩ : ∃n,n=bits .and .i64 c.flags f:=⟨_,rfl⟩;have HN:=zd (show askB c.flags f=decide (n=f)by rw[hn];rfl);by_cases h1:n=f
 · have i11:(n == f)=true:=by simpa using h1
   have i12:decide (n=f)=true:=decide_eq_true h1;(have i13:(n != f)=false:=by simpa using h1);have HK:Hid (askB c.flags f=true):=zd (by rw[HN.out];simpa using h1);clear h1;rw[hn]at i11 i12 i13;clear hn HN;obtain⟨-, -, -, -, -, -, -, -, -, -, -, -,wk12, -, -, -⟩:=cells16 (S0.out.at 0 rfl);go_wp2_with fail;go_ret;exact⟨by rw[HK.out];rfl,S0.out.same 0 rfl HW.out⟩
 · have i11:(n == f)=false:=by simpa using h1
   have i12:decide (n=f)=false:=decide_eq_false h1;(have i13:(n != f)=true:=by simpa using h1);have HK:Hid (askB c.flags f=false):=zd (by rw[HN.out];simpa using h1);clear h1;rw[hn]at i11 i12 i13;clear hn HN;obtain⟨-, -, -, -, -, -, -, -, -, -, -, -,wk12, -, -, -⟩:=cells16 (S0.out.at 0 rfl);go_wp2_with fail;go_ret;exact⟨by rw[HK.out];rfl,S0.out.same 0 rfl HW.out⟩
set_option maxRecDepth 100000 in
set_option maxHeartbeats 4000000 in
theorem pwrong_c (s:ByteArray)(n:Int)(w:World):Calls Tryz.prog 92 #[.string s, .int .i64 n] w fun e w'=>∃v,e = .returned v∧ErrK n v∧Below w.heap.size w w':=by
 have HB:=zd (Below.refl w.heap.size w);go_enter Tryz.func92,Tryz.ntmps92;by_cases h1:n=0
 · have i11:(n == 0)=true:=by simpa using h1
   have i12:decide (n=0)=true:=decide_eq_true h1;(have i13:(n != 0)=false:=by simpa using h1);have H1:=zd h1;clear h1;go_wp2_with fail;go_ret;exact⟨_,rfl,by rw[H1.out];exact ErrK.nil,HB.out⟩
 · have i11:(n == 0)=false:=by simpa using h1
   have i12:decide (n=0)=false:=decide_eq_false h1;(have i13:(n != 0)=true:=by simpa using h1);have H1:=zd h1;clear h1;go_wp2_with fail;go_ret;exact⟨_,rfl,ErrK.failed H1.out _,HB.out⟩
theorem pmay_c (m owner who want:Int)(w:World):Calls Tryz.prog 166 #[.int .i64 m, .int .i64 owner, .int .i64 who, .int .i64 want] w fun e w'=>e = .returned (.bool (mayB m owner who want))∧Below w.heap.size w w':=(may_any m owner who want w).mono fun _ _ h=>⟨h.1,by rw[←h.2];exact Below.refl _ _⟩
end Go.Proofs.YtmiekcdkamgknaaGreatDoor
namespace Go.Proofs.YtmiekcdkamgknaaGreatDoor
open Go.RowKit Go.Shelf
attribute [local go_sem ↓] Go.wp_at_zero Go.wp_at_succ
def inD (t:TabL)(i:Int):Bool:=decide (0≤i) && decide (i<t.ds.length)
set_option maxRecDepth 100000 in
set_option maxHeartbeats 4000000 in
theorem phas_c {X:Nat→Prop}(t:TabL)(ad af:Option Addr)(cap capf:Nat)(w:World)(hT:TabX t (.slice ad t.ds.length cap) (.slice af t.fs.length capf) X w)(p:Int) :
 Calls Tryz.prog 89 #[tabV ad t.ds.length cap af t.fs.length capf, .int .i64 p] w fun e w'=>e = .returned (.bool (inT t p))∧Below w.heap.size w w':=by
 have S0:=zd (Sf.start (w:=w) (X:=fun _=>False) (G:= [TabX t (.slice ad t.ds.length cap) (.slice af t.fs.length capf)]) (fun _ h=>h.elim) (th1 (TabX.firm _ _ _) ((TabX.firm _ _ _).sub hT fun _ h=>h.elim)));clear hT;go_enter Tryz.func89,Tryz.ntmps89;go_upto_region 1 with(fail);refine code_fresh1 ?_;intro W1 hb hA0 hs;have S1:=zd (S0.out.new1 hb hA0);clear hb hA0 hs;obtain⟨d0,d1⟩:=cells2 (S1.out.at 0 rfl);by_cases h1:p<0
 · have i1:decide (0≤p)=false:=decide_eq_false (by omega)
   have HB:Hid ((inT t p)=false):=zd (by unfold inT;rw[i1];rfl);go_wp2_with fail;go_ret;exact⟨by rw[HB.out];rfl,S1.out.bel⟩
 · have i1:decide (0≤p)=true:=decide_eq_true (by omega)
   obtain⟨a,rfl⟩:=Int.eq_ofNat_of_zero_le (show 0≤p by omega);(have a0:(0:Int)≤(a:Int):=by omega);clear h1;by_cases h2:a<t.fs.length
   · have iL1:decide (a<t.fs.length)=true:=decide_eq_true (by omega)
     have iM1:decide ((a:Int)<(t.fs.length:Int))=true:=decide_eq_true (by omega);have HB:Hid ((inT t (a:Int))=true):=zd (by unfold inT;rw[iM1,i1];rfl);clear i1 h2;go_wp2_with fail;go_ret;exact⟨by rw[HB.out];rfl,S1.out.bel⟩
   · have iL1:decide (a<t.fs.length)=false:=decide_eq_false (by omega)
     have iM1:decide ((a:Int)<(t.fs.length:Int))=false:=decide_eq_false (by omega);have HB:Hid ((inT t (a:Int))=false):=zd (by unfold inT;rw[iM1,i1];rfl);clear i1 h2;go_wp2_with fail;go_ret;exact⟨by rw[HB.out];rfl,S1.out.bel⟩
set_option maxRecDepth 100000 in
set_option maxHeartbeats 4000000 in
theorem phasD_c {X:Nat→Prop}(t:TabL)(ad af:Option Addr)(cap capf:Nat)(w:World)(hT:TabX t (.slice ad t.ds.length cap) (.slice af t.fs.length capf) X w)(p:Int) :
 Calls Tryz.prog 56 #[tabV ad t.ds.length cap af t.fs.length capf, .int .i64 p] w fun e w'=>e = .returned (.bool (inD t p))∧Below w.heap.size w w':=by
 have S0:=zd (Sf.start (w:=w) (X:=fun _=>False) (G:= [TabX t (.slice ad t.ds.length cap) (.slice af t.fs.length capf)]) (fun _ h=>h.elim) (th1 (TabX.firm _ _ _) ((TabX.firm _ _ _).sub hT fun _ h=>h.elim)));clear hT;go_enter Tryz.func56,Tryz.ntmps56;go_upto_region 1 with(fail);refine code_fresh1 ?_;intro W1 hb hA0 hs;have S1:=zd (S0.out.new1 hb hA0);clear hb hA0 hs;obtain⟨d0,d1⟩:=cells2 (S1.out.at 0 rfl);by_cases h1:p<0
 · have i1:decide (0≤p)=false:=decide_eq_false (by omega)
   have HB:Hid ((inD t p)=false):=zd (by unfold inD;rw[i1];rfl);go_wp2_with fail;go_ret;exact⟨by rw[HB.out];rfl,S1.out.bel⟩
 · have i1:decide (0≤p)=true:=decide_eq_true (by omega)
   obtain⟨a,rfl⟩:=Int.eq_ofNat_of_zero_le (show 0≤p by omega);(have a0:(0:Int)≤(a:Int):=by omega);clear h1;by_cases h2:a<t.ds.length
   · have iL1:decide (a<t.ds.length)=true:=decide_eq_true (by omega)
     have iM1:decide ((a:Int)<(t.ds.length:Int))=true:=decide_eq_true (by omega);have HB:Hid ((inD t (a:Int))=true):=zd (by unfold inD;rw[iM1,i1];rfl);clear i1 h2;go_wp2_with fail;go_ret;exact⟨by rw[HB.out];rfl,S1.out.bel⟩
   · have iL1:decide (a<t.ds.length)=false:=decide_eq_false (by omega)
     have iM1:decide ((a:Int)<(t.ds.length:Int))=false:=decide_eq_false (by omega);have HB:Hid ((inD t (a:Int))=false):=zd (by unfold inD;rw[iM1,i1];rfl);clear i1 h2;go_wp2_with fail;go_ret;exact⟨by rw[HB.out];rfl,S1.out.bel⟩
end Go.Proofs.YtmiekcdkamgknaaGreatDoor
