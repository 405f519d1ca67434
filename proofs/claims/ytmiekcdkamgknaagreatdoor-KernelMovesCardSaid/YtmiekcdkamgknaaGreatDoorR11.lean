import Derived.RangeFuncNested
import Derived.RangeFuncBound
import Derived.RangeFuncCalls
import Derived.RangeFuncLeaves
import Derived.RangeFuncBox
import Derived.Shelf.Abstract
import Derived.Shelf.RegionOpen
import Derived.WalkKit
import Derived.OwnWalkIn
import Derived.TacticsInMore
import Derived.LoopNIn
import Derived.LoopIn
import Derived.Lib.Hide
import Derived.Outline
import Derived.Deep.QuietTactic
import Derived.Deep.AppendLies
import Derived.BigQuiet
import Derived.Lib.Strings
import Derived.WalkSmall
import Derived.Laws.AppendOwn
import Derived.Laws.OwnMore
import Derived.Laws.AppendOwnNone
import Derived.WideShapes
namespace Go.Proofs.YtmiekcdkamgknaaGreatDoor
open Go.RowKit
theorem wide_fn (f:FuncId):Fence.wide.fn f=True:=rfl
theorem wide_depth:Fence.wide.depth=none:=rfl
theorem data_len (s:ByteArray):s.data.toList.length=s.size:=by rw[Array.length_toList];rfl
theorem take_drop (s:ByteArray)(k:Nat):List.take (s.size-k) (List.drop k s.data.toList)=List.drop k s.data.toList:=by
 apply List.take_of_length_le;rw[List.length_drop,data_len];exact Nat.le_refl _
theorem ret_int {k:IntKind}{a b:Int}(h:a=b):Ending.returned (.int k a) = .returned (.int k b):=by rw[h]
theorem count_set_lt (l:List Bool)(i:Nat)(h:l[i]? = some false):(l.set i true).count false<l.count false:=by
 induction l generalizing i with
 | nil=>simp at h
 | cons b r ih =>
    cases i with
    | zero=>simp at h;subst h;simp
    | succ i=>simp at h;have:=ih i h;simp[List.count_cons];omega
theorem wpAny_inv {P:Program}{ops:Array Oper}{Q:Exit→Act→World→Prop}(I:Array Bool→Act→World→Prop)
 (hstep : ∀(listed:Array Bool) (i:Nat) (o:Oper) (a:Act) (w:World) (K:Act→World→Prop),listed.size=ops.size→i∈Region.ready .any ops listed→ops[i]? = some o→I listed a w →
   (∀a' w',I (listed.setIfInBounds i true) a' w'→K a' w')→if Region.wanted o (yielded ops a.tmps)=true then o.wp P a w K Q else K (a.put o.dst undef) w)
 (hdone : ∀(listed:Array Bool) (a:Act) (w:World),listed.size=ops.size→I listed a w→Region.ready .any ops listed = []→Q .normal a w) :
 ∀(fuel:Nat) (listed:Array Bool) (a:Act) (w:World),listed.size=ops.size→listed.toList.count false≤fuel→I listed a w→wpAny P .any ops Q fuel listed a w:=by
 intro fuel
 induction fuel with
 | zero =>
    intro listed a w hs hc hI
    have hr:Region.ready .any ops listed = []:=by
     apply List.eq_nil_iff_forall_not_mem.2;intro i hi;obtain⟨h1,o,ho,_⟩:=mem_ready.1 hi;have hlt:i<listed.size:=by rw[hs];exact(Array.getElem?_eq_some_iff.1 ho).1
     have h2:listed.toList[i]? = some false:=by
      rw[Array.getElem?_toList,Array.getElem?_eq_getElem hlt];simpa[Array.getD,hlt]using h1
     have:=List.count_pos_iff.2 (List.mem_of_getElem? h2);omega
    exact⟨hr,hdone _ _ _ hs hI hr⟩
 | succ fuel ih =>
    intro listed a w hs hc hI;refine⟨fun hr=>hdone _ _ _ hs hI hr,fun i hi=> ?_⟩;obtain⟨h1,o,ho,_⟩:=mem_ready.1 hi;have hlt:i<listed.size:=by rw[hs];exact(Array.getElem?_eq_some_iff.1 ho).1
    have h2:listed.toList[i]? = some false:=by
     rw[Array.getElem?_toList,Array.getElem?_eq_getElem hlt];simpa[Array.getD,hlt]using h1
    have h3:=count_set_lt _ _ h2;(refine wpOp_step ho fun K hK=>hstep listed i o a w K hs hi ho hI fun a' w' hI'=>hK a' w' (ih _ a' w' (by simp[hs]) ?_ hI'));rw[Array.toList_setIfInBounds];omega
theorem ready_all {ops:Array Oper}{listed:Array Bool}(hb:((List.range ops.size).all fun i=>match ops[i]? with | some o=>o.after.all fun e=>decide (e.on<i) | none=>true)=true)
 (hs:listed.size=ops.size) (hr:Region.ready .any ops listed = []) : ∀i,i<ops.size→listed.getD i false=true:=by
  intro i
  induction i using Nat.strongRecOn with
  | ind i ih =>
     intro hi
     have hg : ∀j,j<ops.size→listed.getD j true=listed.getD j false:=fun j hj=>by
      rw[←hs]at hj;simp[Array.getD,hj]
     cases hc:listed.getD i false with
     | true=>rfl
     | false =>
        have ho:ops[i]? = some ops[i]:=Array.getElem?_eq_getElem hi;have h1:=List.all_eq_true.1 hb i (List.mem_range.2 hi);rw[ho]at h1;simp only[Array.all_eq_true']at h1
        have:i∈Region.ready .any ops listed:=mem_ready.2 ⟨by rw[hg i hi];exact hc,ops[i],ho,fun e he _=>by
         have h2:e.on<i:=of_decide_eq_true (h1 e he)
         exact ih e.on h2 (Nat.lt_trans h2 hi)⟩
        rw[hr]at this;cases this
theorem opsIn_round {P:Program}{ops:Array Oper}{Q:Exit→Act→World→Prop}(l n:Nat)(hd:(ops.toList.all fun o=>match o.op with | .defer _=>false | _=>true)=true)(hno: ¬LetsOut Q) :
 ∀(L:List Nat) (a:Act) (w:World),wpOps P ops Q L a w→wpOpsIn (Fence.wide.inRound l) n P ops Q L a w:=by
 intro L
 induction L with
 | nil=>intro a w h;exact h
 | cons i rest ih =>
    intro a w h;unfold wpOps at h;unfold wpOpsIn
    cases ho:ops[i]? with
    | none=>rw[ho]at h;exact ih _ _ h
    | some o =>
       rw[ho]at h;simp only at h ⊢
       have hnd : ∀c,o.op≠ .defer c:=by
        intro c hc;have:=List.all_eq_true.1 hd o (List.mem_of_getElem? (by rw[Array.getElem?_toList];exact ho));rw[hc]at this;cases this
       split
       · rename_i hw
         rw[if_pos hw]at h;rcases h with h | ⟨_,h⟩
         · unfold Oper.wp at h
           refine⟨fun _ _=>trivial,?_⟩;rw[Oper.semAt_eq _ _ _ hnd];generalize (execOp a.eval o).run P w=r at *
           cases r with
           | ok x w' =>
              cases x with
              | value v=>exact ih _ _ h
              | skip=>exact ih _ _ h
              | defer d=>exact ih _ _ h
              | enter f args =>
                 refine⟨fun hh=>(by cases hh),?_⟩;refine CallsIn.mono (CallsIn.inRound l (callsIn_wide.2 h)) fun e w'' he=> ?_
                 cases e with
                 | returned v=>exact ih _ _ he
                 | panicked c=>exact he
                 | outgrown=>exact he
              | row row args =>
                 refine⟨fun hh=>(by cases hh),?_⟩;intro c cs _;obtain⟨v,w1,hr,hs⟩:=h c cs;exact⟨v,w1,ih _ _ hr,stepsIn_wide.2 hs⟩
              | _=>exact h.elim
           | halt x w'=>cases x<;>first | exact h | exact h.elim
         · exact(hno h).elim
       · rename_i hw
         rw[if_neg hw]at h;exact⟨fun _ _=>trivial,ih _ _ h⟩
theorem region_round {P:Program}{ops:Array Oper}{Q:Exit→Act→World→Prop}{l n id:Nat}{a:Act}{w:World}(hm:P.follows .mixedOrders=true)
 (hd:(ops.toList.all fun o=>match o.op with | .defer _=>false | _=>true)=true) (hno: ¬LetsOut Q)
 (h:wpAny P .any ops Q ops.size (Array.replicate ops.size false) a w.drew):(Code.region id ops true).wpIn (Fence.wide.inRound l) n P Q a w :=
  wpIn_region_draw fun t=>by
   simp only[Region.schedule,hm,Bool.true_or,if_true];exact opsIn_round l n hd hno _ _ _ (wpAny_sound ops.size t _ a _ h)
theorem region_round_inv {P:Program}{ops:Array Oper}{Q:Exit→Act→World→Prop}{l n id:Nat}{a:Act}{w:World}(I:Array Bool→Act→World→Prop)(hm:P.follows .mixedOrders=true)
 (hd:(ops.toList.all fun o=>match o.op with | .defer _=>false | _=>true)=true) (hno: ¬LetsOut Q)
 (h0:I (Array.replicate ops.size false) a w.drew)
 (hstep : ∀(listed:Array Bool) (i:Nat) (o:Oper) (a:Act) (w:World) (K:Act→World→Prop),listed.size=ops.size→i∈Region.ready .any ops listed→ops[i]? = some o→I listed a w →
   (∀a' w',I (listed.setIfInBounds i true) a' w'→K a' w')→if Region.wanted o (yielded ops a.tmps)=true then o.wp P a w K Q else K (a.put o.dst undef) w)
 (hdone : ∀(listed:Array Bool) (a:Act) (w:World),listed.size=ops.size→I listed a w→Region.ready .any ops listed = []→Q .normal a w) :
 (Code.region id ops true).wpIn (Fence.wide.inRound l) n P Q a w :=
  region_round hm hd hno (wpAny_inv I hstep hdone _ _ _ _ (by simp) (by simp) h0)
theorem extract_eq (s:ByteArray)(x y:Nat):s.extract x y=⟨((s.data.toList.take y).drop x).toArray⟩:=by
 (have h:(s.extract x y).data.toList=(s.data.toList.take y).drop x:=by rw[Lib.extract_data,List.drop_take]);rw[←h]
theorem ownsRow_drewN {W:World}{b:Nat}{e:TypeId}{z:Nat}{v:Value}{n:Nat}{xs:List Value}(h:W.ownsRow b e z v n xs)(k:Nat):(W.drewN k).ownsRow b e z v n xs:=h
theorem bf {a b:Bool}(h:a=true→b=true)(hb:b=false):a=false:=by cases a<;>simp_all
def KeepsBox (B:Nat)(W W':World):Prop:=W'.cell? ⟨B,0,none⟩=W.cell? ⟨B,0,none⟩
theorem keepsBox_t {B:Nat}{X Y Z:World}(h:KeepsBox B X Y)(k:KeepsBox B Y Z):KeepsBox B X Z:=Eq.trans k h
theorem keepsBox_b {B h:Nat}(hB:B<h)(W:World)(l:Nat)(o o':Obj)(hl:h≤l)(_:W.heap[l]? = some o)(_:o.isCells=false)(_:o.isWalk=false):KeepsBox B W (W.putObj l o'):=by
 unfold KeepsBox World.cell?;rw[World.putObj_heap_other (by simp;omega)]
end Go.Proofs.YtmiekcdkamgknaaGreatDoor
namespace Go.Proofs.YtmiekcdkamgknaaGreatDoor
open Go.RowKit
open Go.WideShapes (add_plain)
abbrev Str:=List UInt8
abbrev bs (l:Str):ByteArray:=⟨l.toArray⟩
theorem bs_list (l:Str):(bs l).data.toList=l:=rfl
theorem bs_of (s:ByteArray):s=bs s.data.toList:=by apply ByteArray.ext;simp
theorem bs_size (l:Str):(bs l).size=l.length:=by simp[ByteArray.size]
theorem bs_app (a b:Str):bs a++bs b=bs (a++b):=by apply ByteArray.ext;simp
theorem bs_get (l:Str)(k:Nat)(h:k<(bs l).size):(bs l)[k]'h=l[k]'(by rwa [bs_size]at h):=by
 show l.toArray[k]'_=_;rw[List.getElem_toArray]
theorem ret_bool {a b:Bool}(h:a=b):Ending.returned (.bool a) = .returned (.bool b):=by rw[h]
theorem drewN_two (w:World)(a b:Nat):(w.drewN a).drewN b=w.drewN (a+b):=by simp[World.drewN,Nat.add_assoc]
def Rd (B size:Nat)(v:Value)(n:Nat)(xs:List Value)(W:World):Prop :=
 ∃ao cap,v = .slice ao n cap∧n≤cap∧cap≤maxLen∧(ao=Option.none→cap=0)∧xs.length=n*size∧(0<n→∃b off,ao=some ⟨b,off,none⟩∧b<B∧∀j u,xs[j]? = some u→W.cell? ⟨b,off+j,none⟩=some u)
theorem Rd.keep {B size n:Nat}{v:Value}{xs:List Value}{W W':World}(h:Rd B size v n xs W)(hk : ∀b o,b<B→W'.cell? ⟨b,o,none⟩=W.cell? ⟨b,o,none⟩):Rd B size v n xs W':=by
 obtain⟨ao,cap,rfl,hc,hm,hz,hl,h⟩:=h;refine⟨ao,cap,rfl,hc,hm,hz,hl,fun hn=> ?_⟩;obtain⟨b,off,rfl,hb,h⟩:=h hn;exact⟨b,off,rfl,hb,fun j u hu=>(hk _ _ hb).trans (h j u hu)⟩
theorem Rd.below {B size n:Nat}{v:Value}{xs:List Value}{W W':World}(h:Rd B size v n xs W)(hb:Below B W W'):Rd B size v n xs W' :=
 h.keep fun b o hlt=>hb.cell (p:=⟨b,o,none⟩) hlt
theorem Rd.mono {B B' size n:Nat}{v:Value}{xs:List Value}{W:World}(h:Rd B size v n xs W)(hb:B≤B'):Rd B' size v n xs W:=by
 obtain⟨ao,cap,rfl,hc,hm,hz,hl,h⟩:=h;refine⟨ao,cap,rfl,hc,hm,hz,hl,fun hn=> ?_⟩;obtain⟨b,off,rfl,hlt,h⟩:=h hn;exact⟨b,off,rfl,by omega,h⟩
theorem Rd.drewN {B size n:Nat}{v:Value}{xs:List Value}{W:World}(h:Rd B size v n xs W)(k:Nat):Rd B size v n xs (W.drewN k):=h
theorem Rd.len {B size n:Nat}{v:Value}{xs:List Value}{W:World}(h:Rd B size v n xs W):xs.length=n*size:=by
 obtain⟨ao,cap,rfl,hc,hm,hz,hl,h⟩:=h;exact hl
theorem Rd.none0 (B size:Nat)(W:World):Rd B size (.slice none 0 0) 0 [] W :=
 ⟨_,0,rfl,Nat.zero_le _,Nat.zero_le _,fun _=>rfl,by simp,fun h=>absurd h (by omega)⟩
theorem addr_add0 (g k:Nat):(⟨g,0,none⟩:Addr).add k=⟨g,k,none⟩:=by
 cases k with
 | zero=>rfl
 | succ k=>simp[Addr.add]
theorem Rd.own {B base size n:Nat}{e:TypeId}{v:Value}{xs:List Value}{W:World}(h:W.ownsRow base e size v n xs)(hB:W.heap.size≤B):Rd B size v n xs W:=by
 rcases id h.2 with⟨rfl,h0⟩ | ⟨g,cap,cur,rfl,hb,hh,hn,hm,_⟩
 · subst h0
   have:=h.1;obtain rfl:=List.eq_nil_of_length_eq_zero (by simpa using this);exact Rd.none0 _ _ _
 · refine⟨_,cap,rfl,hn,hm,fun e=>(by cases e),h.1,fun _=>⟨g,0,rfl,Nat.lt_of_lt_of_le (h.lt g rfl).2 hB,fun j u hu=> ?_⟩⟩
   have:=h.cells (g:=g) rfl j u hu;rw[addr_add0]at this
   rwa [Nat.zero_add]
def cutA (ao:Option Addr)(k cap:Nat):Option Addr:=if cap=k then ao else ao.map (·.add k)
theorem Rd.tail {B n:Nat}{ao:Option Addr}{cap:Nat}{xs:List Value}{W:World}(h:Rd B 1 (.slice ao n cap) n xs W)(k:Nat)(hk:k≤n):Rd B 1 (.slice (cutA ao k cap) (n-k) (cap-k)) (n-k) (xs.drop k) W:=by
 obtain⟨ao',cap',e,hc,hm,hz,hl,h⟩:=h;injection e with e1 _ e2;subst e1;subst e2;refine⟨_,_,rfl,by omega,by omega,fun e=> ?_,by rw[List.length_drop];omega,fun hn=> ?_⟩
 · have:ao=Option.none:=by
    unfold cutA at e;split at e
    · exact e
    · cases ao with
      | none=>rfl
      | some a=>cases e
   have:=hz this;omega
 obtain⟨b,off,rfl,hb,h⟩:=h (by omega);refine⟨b,off+k,?_,hb,fun j u hu=> ?_⟩
 · unfold cutA
   rw[if_neg (by omega)];simp[add_plain]
 · rw[Nat.add_assoc]
   exact h _ u (by rw[←hu,List.getElem?_drop])
theorem Rd.at {B size n:Nat}{v:Value}{xs:List Value}{W:World}(h:Rd B size v n xs W)(hn:0<n) :
 ∃b off cap,v = .slice (some ⟨b,off,none⟩) n cap∧n≤cap∧cap≤maxLen∧b<B∧xs.length=n*size∧∀j u,xs[j]? = some u→W.cell? ⟨b,off+j,none⟩=some u:=by
 obtain⟨ao,cap,rfl,hc,hm,hz,hl,h⟩:=h;obtain⟨b,off,rfl,hb,h⟩:=h hn;exact⟨b,off,cap,rfl,hc,hm,hb,hl,h⟩
theorem Rd.form {B size n:Nat}{v:Value}{xs:List Value}{W:World}(h:Rd B size v n xs W) : ∃ao cap,v = .slice ao n cap∧n≤cap∧cap≤maxLen:=by
 obtain⟨ao,cap,rfl,hc,hm,_⟩:=h;exact⟨ao,cap,rfl,hc,hm⟩
theorem run_cut {P:Program}(t e:TypeId)(ao:Option Addr)(n cap k:Nat)(x:Int)(w:World)(ht:P.underlying t=some (.slice e))(hz:(sizeOf e).run P w = .ok 1 w)(hx:x=k)(hk:k≤n) :
 (Instr.slice t (.slice ao n cap) (some (.int .i64 x)) none none).run P w = .ok (.slice (cutA ao k cap) (n-k) (cap-k)) w:=by
  subst hx;(have he:P.elem t=e:=by simp[Program.elem,ht]);rw[run_slice_l w t ao n cap (by rw[he];exact ht) .i64 k (by omega) (by omega),he,hz];simp[Result.andThen,sliced,cutA]
theorem ownsRow_below {W W':World}{base B:Nat}{e:TypeId}{size n:Nat}{v:Value}{xs:List Value}(h:W.ownsRow base e size v n xs)(hb:Below B W W')(hB:W.heap.size≤B):W'.ownsRow base e size v n xs:=by
 refine⟨h.1,h.2.imp id ?_⟩;rintro⟨g,cap,cur,h1,h2,h3,h4⟩;exact⟨g,cap,cur,h1,h2,(hb.block g (by have:=(Array.getElem?_eq_some_iff.1 h3).1;omega)).trans h3,h4⟩
theorem own_form {W:World}{base:Nat}{e:TypeId}{size:Nat}{v:Value}{n:Nat}{xs:List Value}(h:W.ownsRow base e size v n xs) : ∃ao cap,v = .slice ao n cap:=by
 rcases h.2 with⟨rfl,h0⟩ | ⟨g,cap,cur,rfl,_⟩
 · exact⟨Option.none,0,by rw[h0]⟩
 · exact⟨_,cap,rfl⟩
theorem wpList_append_rd {P:Program}{w:World}{ops:Array Oper}{rest:List Oper}{o:Oper}{a:Act}{Q:Exit→Act→World→Prop}(hw:Region.wanted o (yielded ops a.tmps)=true)(s x:Operand)(t:TypeId)
 (ho:o.op = .call { callee:= .builtin .append,args:= #[s,x],argTypes:= #[t,t]})
 (base:Nat) (e:TypeId) (i:TypeInfo) (z:Value) (size bytes:Nat) (ht:P.underlying t=some (.slice e)) (hi:P.info? e=some i) (hz:i.zero=some z) (hsize:i.size=size) (hby:i.bytes=bytes) (hzs:z.cells.size=size) (hsz:0<size)
 (v:Value) (n:Nat) (xs:List Value) (hs:a.eval s=v) (hown:w.ownsRow base e size v n xs) (B:Nat) (vx:Value) (m:Nat) (ms:List Value) (hx:a.eval x=vx) (hr:Rd B size vx m ms w) (h1 : ∀u∈ms,u.oneCell'=true)
 (h63:n+m≤maxLen) (hbytes:(n+m)*bytes≤140737488355328) (hbase:base≤w.heap.size)
 (h : ∀v' w',w'.ownsRow base e size v' (n+m) (xs++ms)→w.grownBy w' v.ownBlock→wpList P ops Q rest (a.put o.dst v') w'):wpList P ops Q (o::rest) a w:=by
  (refine wpList_step fun K hK=> ?_);rw[if_pos hw];obtain⟨ao,cap,rfl,hc,hm,h0,hl,hcell⟩:=hr
  cases ao with
  | none =>
     obtain rfl:=h0 rfl;(obtain rfl:m=0:=by omega);obtain rfl:=List.eq_nil_of_length_eq_zero (by simpa using hl);have hrun:=run_append_owned_none (P:=P) (w:=w) base t o.type e i size ht hi v n xs hown;unfold Oper.wp;simp[execOp,ho,resolve,invoke,builtin,hs,hx,hrun,Result.andThen];exact hK _ _ (h v w (by simpa using hown) (World.grownBy.refl w _))
  | some ad =>
     refine wp_append_own w s x t ho base e i z size bytes ht hi hz hsize hby hzs hsz v n xs hs hown ad m cap ms hx hl (fun j u hu=> ?_) h1 h63 hbytes hbase fun v' w' h2 h3 _=>hK _ _ (h v' w' h2 h3)
     have hpos:0<m:=by
      rcases Nat.eq_zero_or_pos m with h | h
      · subst h
        obtain rfl:=List.eq_nil_of_length_eq_zero (by simpa using hl);simp at hu
      · exact h
     obtain⟨b,off,e,_,hcc⟩:=hcell hpos;injection e with e;subst e;rw[add_plain];exact hcc j u hu
def NewV (B:Nat)(v:Value):Prop:=∀g,v.ownBlock=some g→B≤g
theorem NewV.own {W:World}{base:Nat}{e:TypeId}{size:Nat}{v:Value}{n:Nat}{xs:List Value}(h:W.ownsRow base e size v n xs):NewV base v:=fun g hg=>(h.lt g hg).1
theorem NewV.none0 (B:Nat):NewV B (.slice none 0 0):=fun g hg=>by simp[Value.ownBlock]at hg
theorem NewV.mono {B B':Nat}{v:Value}(h:NewV B v)(hb:B'≤B):NewV B' v:=fun g hg=>Nat.le_trans hb (h g hg)
theorem Rd.grown {W W':World}{B size n:Nat}{v:Value}{xs:List Value}{row:Option Nat}(h:Rd B size v n xs W)(hg:W.grownBy W' row)(hB:B≤W.heap.size)(hne : ∀g,row=some g→v.ownBlock≠some g):Rd B size v n xs W':=by
 obtain⟨ao,cap,rfl,hc,hm,hz,hl,h⟩:=h;refine⟨ao,cap,rfl,hc,hm,hz,hl,fun hn=> ?_⟩;obtain⟨b,off,rfl,hb,h⟩:=h hn;refine⟨b,off,rfl,hb,fun j u hu=> ?_⟩;rw[World.cell?_of_block (a:=⟨b,off+j,Option.none⟩) (hg.block b (by omega) (fun e=>hne b e.symm rfl))];exact h j u hu
def strs (l:List Str):List Value:=l.map fun s=> .string (bs s)
theorem strs_app (a b:List Str):strs (a++b)=strs a++strs b:=by simp[strs]
theorem strs_one (l:List Str) : ∀u∈strs l,u.oneCell'=true:=by
 intro u hu;obtain⟨z,_,rfl⟩:=List.mem_map.1 hu;rfl
end Go.Proofs.YtmiekcdkamgknaaGreatDoor
