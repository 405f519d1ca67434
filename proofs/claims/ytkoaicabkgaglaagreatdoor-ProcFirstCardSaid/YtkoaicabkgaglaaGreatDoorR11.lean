import Derived.RangeFuncNested
import Derived.RangeFuncBound
import Derived.RangeFuncCalls
import Derived.RangeFuncLeaves
import Derived.RangeFuncBox
import Derived.Shelf.Abstract
import Derived.Shelf.RegionOpen
import Derived.WalkKit
import Derived.OwnWalkIn
import Derived.TacticsInMore
import Derived.LoopNIn
import Derived.LoopIn
import Derived.Lib.Hide
import Derived.Outline
import Derived.Deep.QuietTactic
import Derived.Deep.AppendLies
import Derived.BigQuiet
import Derived.Lib.Strings
import Derived.WalkSmall
import Derived.Laws.AppendOwn
import Derived.Laws.OwnMore
import Derived.Laws.AppendOwnNone
import Derived.WideShapes
namespace Go.Proofs.YtkoaicabkgaglaaGreatDoor
open Go.RowKit
theorem wide_fn (f:FuncId):Fence.wide.fn f=True:=rfl
theorem wide_depth:Fence.wide.depth=none:=rfl
theorem data_len (s:ByteArray):s.data.toList.length=s.size:=by rw[Array.length_toList];rfl
theorem ret_int {k:IntKind}{a b:Int}(h:a=b):Ending.returned (.int k a) = .returned (.int k b):=by rw[h]
end Go.Proofs.YtkoaicabkgaglaaGreatDoor
namespace Go.Proofs.YtkoaicabkgaglaaGreatDoor
open Go.RowKit
open Go.WideShapes (add_plain)
abbrev Str:=List UInt8
abbrev bs (l:Str):ByteArray:=⟨l.toArray⟩
theorem bs_list (l:Str):(bs l).data.toList=l:=rfl
theorem bs_size (l:Str):(bs l).size=l.length:=by simp[ByteArray.size]
theorem bs_get (l:Str)(k:Nat)(h:k<(bs l).size):(bs l)[k]'h=l[k]'(by rwa [bs_size]at h):=by
 show l.toArray[k]'_=_;rw[List.getElem_toArray]
theorem ret_bool {a b:Bool}(h:a=b):Ending.returned (.bool a) = .returned (.bool b):=by rw[h]
theorem drewN_two (w:World)(a b:Nat):(w.drewN a).drewN b=w.drewN (a+b):=by simp[World.drewN,Nat.add_assoc]
def Rd (B size:Nat)(v:Value)(n:Nat)(xs:List Value)(W:World):Prop :=
 ∃ao cap,v = .slice ao n cap∧n≤cap∧cap≤maxLen∧(ao=Option.none→cap=0)∧xs.length=n*size∧(0<n→∃b off,ao=some ⟨b,off,none⟩∧b<B∧∀j u,xs[j]? = some u→W.cell? ⟨b,off+j,none⟩=some u)
theorem Rd.keep {B size n:Nat}{v:Value}{xs:List Value}{W W':World}(h:Rd B size v n xs W)(hk : ∀b o,b<B→W'.cell? ⟨b,o,none⟩=W.cell? ⟨b,o,none⟩):Rd B size v n xs W':=by
 obtain⟨ao,cap,rfl,hc,hm,hz,hl,h⟩:=h;refine⟨ao,cap,rfl,hc,hm,hz,hl,fun hn=> ?_⟩;obtain⟨b,off,rfl,hb,h⟩:=h hn;exact⟨b,off,rfl,hb,fun j u hu=>(hk _ _ hb).trans (h j u hu)⟩
theorem Rd.below {B size n:Nat}{v:Value}{xs:List Value}{W W':World}(h:Rd B size v n xs W)(hb:Below B W W'):Rd B size v n xs W' :=
 h.keep fun b o hlt=>hb.cell (p:=⟨b,o,none⟩) hlt
theorem Rd.mono {B B' size n:Nat}{v:Value}{xs:List Value}{W:World}(h:Rd B size v n xs W)(hb:B≤B'):Rd B' size v n xs W:=by
 obtain⟨ao,cap,rfl,hc,hm,hz,hl,h⟩:=h;refine⟨ao,cap,rfl,hc,hm,hz,hl,fun hn=> ?_⟩;obtain⟨b,off,rfl,hlt,h⟩:=h hn;exact⟨b,off,rfl,by omega,h⟩
theorem Rd.drewN {B size n:Nat}{v:Value}{xs:List Value}{W:World}(h:Rd B size v n xs W)(k:Nat):Rd B size v n xs (W.drewN k):=h
theorem Rd.len {B size n:Nat}{v:Value}{xs:List Value}{W:World}(h:Rd B size v n xs W):xs.length=n*size:=by
 obtain⟨ao,cap,rfl,hc,hm,hz,hl,h⟩:=h;exact hl
theorem Rd.none0 (B size:Nat)(W:World):Rd B size (.slice none 0 0) 0 [] W :=
 ⟨_,0,rfl,Nat.zero_le _,Nat.zero_le _,fun _=>rfl,by simp,fun h=>absurd h (by omega)⟩
theorem addr_add0 (g k:Nat):(⟨g,0,none⟩:Addr).add k=⟨g,k,none⟩:=by
 cases k with
 | zero=>rfl
 | succ k=>simp[Addr.add]
theorem Rd.own {B base size n:Nat}{e:TypeId}{v:Value}{xs:List Value}{W:World}(h:W.ownsRow base e size v n xs)(hB:W.heap.size≤B):Rd B size v n xs W:=by
 rcases id h.2 with⟨rfl,h0⟩ | ⟨g,cap,cur,rfl,hb,hh,hn,hm,_⟩
 · subst h0
   have:=h.1;obtain rfl:=List.eq_nil_of_length_eq_zero (by simpa using this);exact Rd.none0 _ _ _
 · refine⟨_,cap,rfl,hn,hm,fun e=>(by cases e),h.1,fun _=>⟨g,0,rfl,Nat.lt_of_lt_of_le (h.lt g rfl).2 hB,fun j u hu=> ?_⟩⟩
   have:=h.cells (g:=g) rfl j u hu;rw[addr_add0]at this
   rwa [Nat.zero_add]
def cutA (ao:Option Addr)(k cap:Nat):Option Addr:=if cap=k then ao else ao.map (·.add k)
theorem Rd.tail {B n:Nat}{ao:Option Addr}{cap:Nat}{xs:List Value}{W:World}(h:Rd B 1 (.slice ao n cap) n xs W)(k:Nat)(hk:k≤n):Rd B 1 (.slice (cutA ao k cap) (n-k) (cap-k)) (n-k) (xs.drop k) W:=by
 obtain⟨ao',cap',e,hc,hm,hz,hl,h⟩:=h;injection e with e1 _ e2;subst e1;subst e2;refine⟨_,_,rfl,by omega,by omega,fun e=> ?_,by rw[List.length_drop];omega,fun hn=> ?_⟩
 · have:ao=Option.none:=by
    unfold cutA at e;split at e
    · exact e
    · cases ao with
      | none=>rfl
      | some a=>cases e
   have:=hz this;omega
 obtain⟨b,off,rfl,hb,h⟩:=h (by omega);refine⟨b,off+k,?_,hb,fun j u hu=> ?_⟩
 · unfold cutA
   rw[if_neg (by omega)];simp[add_plain]
 · rw[Nat.add_assoc]
   exact h _ u (by rw[←hu,List.getElem?_drop])
theorem Rd.at {B size n:Nat}{v:Value}{xs:List Value}{W:World}(h:Rd B size v n xs W)(hn:0<n) :
 ∃b off cap,v = .slice (some ⟨b,off,none⟩) n cap∧n≤cap∧cap≤maxLen∧b<B∧xs.length=n*size∧∀j u,xs[j]? = some u→W.cell? ⟨b,off+j,none⟩=some u:=by
 obtain⟨ao,cap,rfl,hc,hm,hz,hl,h⟩:=h;obtain⟨b,off,rfl,hb,h⟩:=h hn;exact⟨b,off,cap,rfl,hc,hm,hb,hl,h⟩
theorem Rd.form {B size n:Nat}{v:Value}{xs:List Value}{W:World}(h:Rd B size v n xs W) : ∃ao cap,v = .slice ao n cap∧n≤cap∧cap≤maxLen:=by
 obtain⟨ao,cap,rfl,hc,hm,_⟩:=h;exact⟨ao,cap,rfl,hc,hm⟩
theorem ownsRow_below {W W':World}{base B:Nat}{e:TypeId}{size n:Nat}{v:Value}{xs:List Value}(h:W.ownsRow base e size v n xs)(hb:Below B W W')(hB:W.heap.size≤B):W'.ownsRow base e size v n xs:=by
 refine⟨h.1,h.2.imp id ?_⟩;rintro⟨g,cap,cur,h1,h2,h3,h4⟩;exact⟨g,cap,cur,h1,h2,(hb.block g (by have:=(Array.getElem?_eq_some_iff.1 h3).1;omega)).trans h3,h4⟩
theorem own_form {W:World}{base:Nat}{e:TypeId}{size:Nat}{v:Value}{n:Nat}{xs:List Value}(h:W.ownsRow base e size v n xs) : ∃ao cap,v = .slice ao n cap:=by
 rcases h.2 with⟨rfl,h0⟩ | ⟨g,cap,cur,rfl,_⟩
 · exact⟨Option.none,0,by rw[h0]⟩
 · exact⟨_,cap,rfl⟩
theorem wpList_append_rd {P:Program}{w:World}{ops:Array Oper}{rest:List Oper}{o:Oper}{a:Act}{Q:Exit→Act→World→Prop}(hw:Region.wanted o (yielded ops a.tmps)=true)(s x:Operand)(t:TypeId)
 (ho:o.op = .call { callee:= .builtin .append,args:= #[s,x],argTypes:= #[t,t]})
 (base:Nat) (e:TypeId) (i:TypeInfo) (z:Value) (size bytes:Nat) (ht:P.underlying t=some (.slice e)) (hi:P.info? e=some i) (hz:i.zero=some z) (hsize:i.size=size) (hby:i.bytes=bytes) (hzs:z.cells.size=size) (hsz:0<size)
 (v:Value) (n:Nat) (xs:List Value) (hs:a.eval s=v) (hown:w.ownsRow base e size v n xs) (B:Nat) (vx:Value) (m:Nat) (ms:List Value) (hx:a.eval x=vx) (hr:Rd B size vx m ms w) (h1 : ∀u∈ms,u.oneCell'=true)
 (h63:n+m≤maxLen) (hbytes:(n+m)*bytes≤140737488355328) (hbase:base≤w.heap.size)
 (h : ∀v' w',w'.ownsRow base e size v' (n+m) (xs++ms)→w.grownBy w' v.ownBlock→wpList P ops Q rest (a.put o.dst v') w'):wpList P ops Q (o::rest) a w:=by
  (refine wpList_step fun K hK=> ?_);rw[if_pos hw];obtain⟨ao,cap,rfl,hc,hm,h0,hl,hcell⟩:=hr
  cases ao with
  | none =>
     obtain rfl:=h0 rfl;(obtain rfl:m=0:=by omega);obtain rfl:=List.eq_nil_of_length_eq_zero (by simpa using hl);have hrun:=run_append_owned_none (P:=P) (w:=w) base t o.type e i size ht hi v n xs hown;unfold Oper.wp;simp[execOp,ho,resolve,invoke,builtin,hs,hx,hrun,Result.andThen];exact hK _ _ (h v w (by simpa using hown) (World.grownBy.refl w _))
  | some ad =>
     refine wp_append_own w s x t ho base e i z size bytes ht hi hz hsize hby hzs hsz v n xs hs hown ad m cap ms hx hl (fun j u hu=> ?_) h1 h63 hbytes hbase fun v' w' h2 h3 _=>hK _ _ (h v' w' h2 h3)
     have hpos:0<m:=by
      rcases Nat.eq_zero_or_pos m with h | h
      · subst h
        obtain rfl:=List.eq_nil_of_length_eq_zero (by simpa using hl);simp at hu
      · exact h
     obtain⟨b,off,e,_,hcc⟩:=hcell hpos;injection e with e;subst e;rw[add_plain];exact hcc j u hu
def NewV (B:Nat)(v:Value):Prop:=∀g,v.ownBlock=some g→B≤g
theorem NewV.own {W:World}{base:Nat}{e:TypeId}{size:Nat}{v:Value}{n:Nat}{xs:List Value}(h:W.ownsRow base e size v n xs):NewV base v:=fun g hg=>(h.lt g hg).1
theorem NewV.none0 (B:Nat):NewV B (.slice none 0 0):=fun g hg=>by simp[Value.ownBlock]at hg
theorem NewV.mono {B B':Nat}{v:Value}(h:NewV B v)(hb:B'≤B):NewV B' v:=fun g hg=>Nat.le_trans hb (h g hg)
theorem Rd.grown {W W':World}{B size n:Nat}{v:Value}{xs:List Value}{row:Option Nat}(h:Rd B size v n xs W)(hg:W.grownBy W' row)(hB:B≤W.heap.size)(hne : ∀g,row=some g→v.ownBlock≠some g):Rd B size v n xs W':=by
 obtain⟨ao,cap,rfl,hc,hm,hz,hl,h⟩:=h;refine⟨ao,cap,rfl,hc,hm,hz,hl,fun hn=> ?_⟩;obtain⟨b,off,rfl,hb,h⟩:=h hn;refine⟨b,off,rfl,hb,fun j u hu=> ?_⟩;rw[World.cell?_of_block (a:=⟨b,off+j,Option.none⟩) (hg.block b (by omega) (fun e=>hne b e.symm rfl))];exact h j u hu
def strs (l:List Str):List Value:=l.map fun s=> .string (bs s)
end Go.Proofs.YtkoaicabkgaglaaGreatDoor
