import Derived.Test.YtmiekcdkamgknaaGreatDoorRows
import Derived.Test.YtmiekcdkamgknaaGreatDoorR27
import Derived.LaidLaws
import Derived.LaidHandle
import Derived.Stop.Joined
import Derived.Stop.LaidErr
import Derived.Lay
import Derived.Test.YtmiekcdkamgknaaGreatDoorR24
namespace Go.Proofs.YtmiekcdkamgknaaGreatDoor
open Go.ChangeShapes Go.WideShapes Go.RowKit
theorem sents_of {P:Program}{nm:String}{W:World}{ti tp te ts:TypeId}{ms:Array (String × TypeId)}{f:Field}
 (hi:P.underlying ti=some (.interface ms)) (hrow : ∀u,P.typeName? 3 u=some nm→u=tp)
 (hp:P.underlying tp=some (.pointer te)) (he:P.underlying te=some (.struct #[f])) (hft:f.type=ts) (hfo:f.offset=0) (hs:P.underlying ts=some .string) (hc:P.cellsOf te=1) (hcs:P.cellsOf ts=1) :
 ∀(L:List (String × Nat × List UInt8)) (ps:List MemPlace),(∀x∈L,P.globalNamed x.1=some x.2.1∧(P.globals[x.2.1]?).map (·.type)=some ti) →
  DataW.LaidVars P W (L.map fun x=>(x.1,DataW.iface nm (.ptr (.agg [.lit (.string x.2.2)])))) ps→ps.Nodup →
  (∀b off,MemPlace.cell b off∈ps→(∃c t,W.heap[b]? = some (.cells c t (0,0)))∧∀u v,W.cell? ⟨b,off,none⟩=some (.iface u v)→Value.okWide P W .any 0 u v) →
  ∃qs:List Addr,qs.length=L.length∧qs.Nodup∧(∀a∈qs,MemPlace.cell a.block a.off∈ps) ∧
   ∀(k:Nat) x a,L[k]? = some x→qs[k]? = some a→W.cell? ⟨x.2.1,0,none⟩=some (.iface tp (.pointer (some a)))∧∃c t,W.heap[a.block]? = some (.cells c t (0,0)):=by
 intro L
 induction L with
 | nil=>intro ps _ _ _ _;exact⟨[],rfl,List.nodup_nil,(fun _ h=>by cases h),fun k x a h=>by simp at h⟩
 | cons x L ih =>
    intro ps hL h hnd hrows;obtain⟨g,t,cs,fuel,p,q,hg,ht,hv,hd,hr,rfl⟩:=h;obtain⟨hg0,ht0⟩:=hL x List.mem_cons_self;obtain rfl:=Option.some.inj (hg0.symm.trans hg);obtain rfl:=Option.some.inj (ht0.symm.trans ht);obtain⟨l0⟩:=cs
    have ok0 : ∀u v,l0 = [.iface u v]→Value.okWide P W .any 0 u v:=fun u v e=>by
     subst e;exact(hrows x.2.1 0 (by simp[MemPlace.row])).2 u v (by simpa using World.var?_cell hg hv 0)
    obtain⟨a0,s0,rfl,hc0,hs0,hz0,rfl⟩:=errorString_of_trod hi hrow hp he hft hfo hs hc hcs hd ok0;(have hm0:MemPlace.cell a0.block a0.off∈MemPlace.row a0 1:=by simp[MemPlace.row]);obtain⟨n1,n2,n3⟩:=List.nodup_append.1 hnd;obtain⟨qs,h1,h2,h3,h4⟩:=ih q (fun y hy=>hL y (List.mem_cons_of_mem _ hy)) hr n2 (fun b off hb=>hrows b off (List.mem_append_right _ hb));refine⟨a0::qs,by simp[h1],List.nodup_cons.2 ⟨fun hm=>n3 _ (List.mem_append_right _ hm0) _ (h3 a0 hm) rfl,h2⟩,fun a ha=> ?_,fun k y a hk ha=> ?_⟩
    · rcases List.mem_cons.1 ha with rfl | ha
      · exact List.mem_append_left _ (List.mem_append_right _ hm0)
      · exact List.mem_append_right _ (h3 a ha)
    · cases k with
      | zero =>
         (obtain rfl:x=y:=by simpa using hk);(obtain rfl:a0=a:=by simpa using ha);exact⟨by simpa using World.var?_cell hg hv 0,(hrows a0.block a0.off (List.mem_append_left _ (List.mem_append_right _ hm0))).1⟩
      | succ k=>exact h4 k y a (by simpa using hk) (by simpa using ha)
def sentL:List (String × DataW Unit):= [("flagstone/change.errArg",Rows.laid_flagstone_change_errArg),("flagstone/change.errNone",Rows.laid_flagstone_change_errNone),("flagstone/change.errExists",Rows.laid_flagstone_change_errExists),("flagstone/change.errNotDir",Rows.laid_flagstone_change_errNotDir),("flagstone/change.errIsDir",Rows.laid_flagstone_change_errIsDir),("flagstone/change.errFull",Rows.laid_flagstone_change_errFull),("flagstone/change.errAccess",Rows.laid_flagstone_change_errAccess),("flagstone/change.errLong",Rows.laid_flagstone_change_errLong),("flagstone/change.errLinks",Rows.laid_flagstone_change_errLinks),("flagstone/change.errInto",Rows.laid_flagstone_change_errInto)]
def dataL:List (String × DataW Unit):=("math/bits.deBruijn32tab",Rows.laid_math_bits_deBruijn32tab)::("math/bits.deBruijn64tab",Rows.laid_math_bits_deBruijn64tab)::("internal/strconv.uint64pow10",Rows.laid_internal_strconv_uint64pow10)::sentL
def laidL:List (String × DataW Unit):=("math/bits.deBruijn32tab",Rows.laid_math_bits_deBruijn32tab)::("math/bits.deBruijn64tab",Rows.laid_math_bits_deBruijn64tab)::("internal/strconv.uint64pow10",Rows.laid_internal_strconv_uint64pow10)::("errors.errorType",Rows.laid_errors_errorType)::sentL
theorem powData:(Rows.laid_internal_strconv_uint64pow10:DataW Unit)=Lib.tabData .u64 Lib.pow10Tab:=by kernel_rfl
theorem powType:(Tryz.prog.globals[12]?).map (·.type)=some 316:=by kernel_rfl
def textOf:DataW Unit→List UInt8
 | .iface _ (.ptr (.agg [.lit (.string s)]))=>s
 | _=> []
def sentG:List (String × Nat × List UInt8):= [("flagstone/change.errArg",6,textOf Rows.laid_flagstone_change_errArg),("flagstone/change.errNone",1,textOf Rows.laid_flagstone_change_errNone),("flagstone/change.errExists",7,textOf Rows.laid_flagstone_change_errExists),("flagstone/change.errNotDir",4,textOf Rows.laid_flagstone_change_errNotDir),("flagstone/change.errIsDir",8,textOf Rows.laid_flagstone_change_errIsDir),("flagstone/change.errFull",5,textOf Rows.laid_flagstone_change_errFull),("flagstone/change.errAccess",3,textOf Rows.laid_flagstone_change_errAccess),("flagstone/change.errLong",2,textOf Rows.laid_flagstone_change_errLong),("flagstone/change.errLinks",9,textOf Rows.laid_flagstone_change_errLinks),("flagstone/change.errInto",10,textOf Rows.laid_flagstone_change_errInto)]
theorem sent_map:sentL=sentG.map fun x=>(x.1,DataW.iface "*errors.errorString" (.ptr (.agg [.lit (.string x.2.2)]))):=rfl
theorem starES : "*" ++ "errors.errorString" = "*errors.errorString" := by decide
theorem rowES (u:TypeId)(h:Tryz.prog.typeName? 3 u=some "*errors.errorString"):u=326 :=
 typeName_ptr_named (nm:= "errors.errorString") (by rw[starES];kernel_rfl) (by kernel_rfl) (by decide) u (by rw[starES];exact h)
theorem errGlob:Tryz.prog.globalNamed "errors.errorType" = some 0:=by kernel_rfl
theorem errRt:(Tryz.prog.cutTypes.find? (·.1 == "internal/reflectlite.rtype")).map (·.2)=some 184:=by kernel_rfl
theorem errRow:((List.range Tryz.prog.types.size).filter fun t=>Tryz.prog.rowNamed t [101,114,114,111,114]) = [63]:=by kernel_rfl
theorem sentGlob : ∀x∈sentG,Tryz.prog.globalNamed x.1=some x.2.1∧(Tryz.prog.globals[x.2.1]?).map (·.type)=some 63:=by
 intro x hx;simp only[sentG,List.mem_cons,List.not_mem_nil,or_false]at hx;rcases hx with rfl | rfl | rfl | rfl | rfl | rfl | rfl | rfl | rfl | rfl
 all_goals exact⟨by kernel_rfl,by kernel_rfl⟩
theorem noneL:(laidL.filter fun x=>x.2.handleName?.isNone)=dataL:=by kernel_rfl
theorem someL:(laidL.filter fun x=>x.2.handleName?.isSome) = [("errors.errorType",Rows.laid_errors_errorType)]:=by kernel_rfl
def sAt (qs:List Addr)(k:Nat):Addr:=qs.getD (codes.idxOf k) ⟨0,0,none⟩
theorem codes_apart : ∀j∈codes,∀k∈codes,j≠k→codes.idxOf j≠codes.idxOf k:=by decide
theorem codes_lt : ∀j∈codes,codes.idxOf j<10:=by decide
theorem env_of {W:World}(h:laidMetH Tryz.prog laidL W) : ∃S,Env S W:=by
 unfold laidMetH at h;rw[someL]at h;have h':laidMet Tryz.prog (laidL.filter fun x=>x.2.handleName?.isNone) W∧handlesMet Tryz.prog [("errors.errorType",Rows.laid_errors_errorType)] W:=h;rw[noneL]at h';have h3:laidMet Tryz.prog (("internal/strconv.uint64pow10",Rows.laid_internal_strconv_uint64pow10)::sentL) W:=h'.1.tail.tail
 have htab:Lib.TabIs Tryz.prog W "internal/strconv.uint64pow10" .u64 Lib.pow10Tab:=by
  have h4:=h3;rw[powData]at h4;exact Lib.tabIs_of_head powGlob powType Tryz.underlying316 Tryz.underlying296 (by kernel_rfl) (by kernel_rfl) h4
 have h5:=h3.tail;rw[sent_map]at h5;obtain⟨ps,hv,hnd,hrows⟩:=h5;have hh:=h'.2;obtain⟨qs,hl,hn,_,hat⟩:=sents_of Tryz.underlying63 rowES Tryz.underlying326 Tryz.underlying346 rfl rfl Tryz.underlying9 (by kernel_rfl) (by kernel_rfl) sentG ps sentGlob hv hnd hrows;have hl:qs.length=10:=hl
 have hget : ∀i,i<10→qs[i]? = some (qs.getD i ⟨0,0,none⟩):=fun i hi=>by
  rw[List.getD_eq_getElem?_getD,List.getElem?_eq_getElem (by omega)];rfl
 have hS : ∀k∈codes,qs[codes.idxOf k]? = some (sAt qs k):=fun k hk=>hget _ (codes_lt k hk)
 have herr:W.cell? ⟨0,0,none⟩=some errTypeV:=by
  obtain⟨name,u,ty,e1,e2,e3,e4,e5⟩:=hh _ (List.mem_singleton.2 rfl);have en:name = [101,114,114,111,114]:=(Option.some.inj e1).symm;subst en;obtain rfl:=Option.some.inj (errRt.symm.trans e2);(have hm:ty∈(List.range Tryz.prog.types.size).filter fun t=>Tryz.prog.rowNamed t [101,114,114,111,114]:=List.mem_filter.2 ⟨List.mem_range.2 e3,e4⟩);rw[errRow]at hm;obtain rfl:=List.mem_singleton.1 hm;(have hh:typeHandle Tryz.prog 63 = .pointer (some ⟨15,63,none⟩):=by kernel_rfl);rw[hh]at e5;simpa using World.var?_cell errGlob e5 0
 refine⟨sAt qs,⟨
  (hat 0 _ _ rfl (hget 0 (by decide))).1,
  (hat 1 _ _ rfl (hget 1 (by decide))).1,
  (hat 2 _ _ rfl (hget 2 (by decide))).1,
  (hat 3 _ _ rfl (hget 3 (by decide))).1,
  (hat 4 _ _ rfl (hget 4 (by decide))).1,
  (hat 5 _ _ rfl (hget 5 (by decide))).1,
  (hat 6 _ _ rfl (hget 6 (by decide))).1,
  (hat 7 _ _ rfl (hget 7 (by decide))).1,
  (hat 8 _ _ rfl (hget 8 (by decide))).1,
  (hat 9 _ _ rfl (hget 9 (by decide))).1,
  fun k hk=>(hat (codes.idxOf k) (sentG.getD (codes.idxOf k) ("",0,[])) _ (by
   have:=codes_lt k hk;rw[List.getD_eq_getElem?_getD,List.getElem?_eq_getElem (show codes.idxOf k<sentG.length from this)]
   rfl) (hS k hk)).2,
  fun j hj k hk hne e=>by
   have h1:=hS j hj;have h2:=hS k hk;rw[←e]at h2
   exact codes_apart j hj k hk hne ((List.getElem?_inj (by rw[hl];exact codes_lt j hj) hn).1 (h1.trans h2.symm)),
  herr⟩,htab⟩
noncomputable def laidW0 (os:Os):World :=
 let w0:=World.holding Tryz.prog os ⟨#[],#[],[]⟩
 { w0 with heap:=w0.heap.modify 0 fun
  | .cells _ t frozen=> .cells #[errTypeV] t frozen
  | o=>o}
noncomputable def laidWorld (os:Os):World:=(laidW0 os).layVars Tryz.prog dataL
theorem laidWorld_os (os:Os):(laidWorld os).os=os:=by
 unfold laidWorld;rw[World.layVars_os];rfl
theorem laid_sents (os:Os)(args:Array Value):laidMet Tryz.prog dataL ((laidWorld os).forCall (fun _ _=>0) ⟨#[],args,[]⟩).memory:=by
 (have e1:(dataL.filter fun x=>(dataL.map (·.1)).contains x.1)=dataL:=List.filter_eq_self.2 fun x hx=>List.contains_iff_mem.2 (List.mem_map.2 ⟨x,hx,rfl⟩));(have e2:(dataL.filter fun x=> !(dataL.map (·.1)).contains x.1) = []:=List.filter_eq_nil_iff.2 fun x hx=>by rw[List.contains_iff_mem.2 (List.mem_map.2 ⟨x,hx,rfl⟩)];simp);have h:laidMet Tryz.prog dataL (laidWorld os):=laidMet_layVars (w0:=laidW0 os) (dataL.map (·.1)) [] (by rw[e1];rfl) (by rw[e1];kernel_rfl) (by rw[e1];kernel_rfl) (by rw[e2];exact LaidIn.none);exact h.of_heap (by simp[World.memory,World.forCall,Input.heap])
end Go.Proofs.YtmiekcdkamgknaaGreatDoor
