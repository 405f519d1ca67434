import Derived.RangeFuncNested
import Derived.RangeFuncBound
import Derived.RangeFuncCalls
import Derived.RangeFuncLeaves
import Derived.RangeFuncBox
import Derived.Shelf.Abstract
import Derived.Shelf.RegionOpen
import Derived.WalkKit
import Derived.OwnWalkIn
import Derived.TacticsInMore
import Derived.LoopNIn
import Derived.LoopIn
import Derived.Lib.Hide
import Derived.Outline
import Derived.Deep.QuietTactic
import Derived.Deep.AppendLies
import Derived.BigQuiet
import Derived.Lib.Strings
import Derived.WalkSmall
import Derived.Laws.AppendOwn
import Derived.Laws.OwnMore
import Derived.Laws.AppendOwnNone
import Derived.WideShapes
import Derived.Laws.RangeAny
import Derived.Test.YtpbmbpefophlfaaGreatDoorShelf
import Derived.Laws.Runes
import Derived.Lib.Builder
import Derived.Deep.WholeRow
import Derived.WalkMore
import Derived.Lib.OthersKept
import Derived.Lib.QuietBelow
import Derived.Deep.DrawnRows
import Derived.Laws.Cover1
import Derived.Shelf.SlSorted.Search
import Derived.Shelf.Spec.SlicesGrow
import Derived.StillTailTactics
namespace Go.Proofs.YtpbmbpefophlfaaGreatDoor
open Go.RowKit
theorem wide_fn (f:FuncId):Fence.wide.fn f=True:=rfl
theorem wide_depth:Fence.wide.depth=none:=rfl
theorem data_len (s:ByteArray):s.data.toList.length=s.size:=by rw[Array.length_toList];rfl
theorem ret_int {k:IntKind}{a b:Int}(h:a=b):Ending.returned (.int k a) = .returned (.int k b):=by rw[h]
end Go.Proofs.YtpbmbpefophlfaaGreatDoor
namespace Go.Proofs.YtpbmbpefophlfaaGreatDoor
open Go.RowKit
open Go.WideShapes (add_plain)
abbrev Str:=List UInt8
abbrev bs (l:Str):ByteArray:=⟨l.toArray⟩
theorem bs_of (s:ByteArray):s=bs s.data.toList:=by apply ByteArray.ext;simp
theorem bs_size (l:Str):(bs l).size=l.length:=by simp[ByteArray.size]
theorem bs_get (l:Str)(k:Nat)(h:k<(bs l).size):(bs l)[k]'h=l[k]'(by rwa [bs_size]at h):=by
 show l.toArray[k]'_=_;rw[List.getElem_toArray]
theorem ret_bool {a b:Bool}(h:a=b):Ending.returned (.bool a) = .returned (.bool b):=by rw[h]
theorem drewN_two (w:World)(a b:Nat):(w.drewN a).drewN b=w.drewN (a+b):=by simp[World.drewN,Nat.add_assoc]
def Rd (B size:Nat)(v:Value)(n:Nat)(xs:List Value)(W:World):Prop :=
 ∃ao cap,v = .slice ao n cap∧n≤cap∧cap≤maxLen∧(ao=Option.none→cap=0)∧xs.length=n*size∧(0<n→∃b off,ao=some ⟨b,off,none⟩∧b<B∧∀j u,xs[j]? = some u→W.cell? ⟨b,off+j,none⟩=some u)
theorem Rd.keep {B size n:Nat}{v:Value}{xs:List Value}{W W':World}(h:Rd B size v n xs W)(hk : ∀b o,b<B→W'.cell? ⟨b,o,none⟩=W.cell? ⟨b,o,none⟩):Rd B size v n xs W':=by
 obtain⟨ao,cap,rfl,hc,hm,hz,hl,h⟩:=h;refine⟨ao,cap,rfl,hc,hm,hz,hl,fun hn=> ?_⟩;obtain⟨b,off,rfl,hb,h⟩:=h hn;exact⟨b,off,rfl,hb,fun j u hu=>(hk _ _ hb).trans (h j u hu)⟩
theorem Rd.below {B size n:Nat}{v:Value}{xs:List Value}{W W':World}(h:Rd B size v n xs W)(hb:Below B W W'):Rd B size v n xs W' :=
 h.keep fun b o hlt=>hb.cell (p:=⟨b,o,none⟩) hlt
theorem Rd.mono {B B' size n:Nat}{v:Value}{xs:List Value}{W:World}(h:Rd B size v n xs W)(hb:B≤B'):Rd B' size v n xs W:=by
 obtain⟨ao,cap,rfl,hc,hm,hz,hl,h⟩:=h;refine⟨ao,cap,rfl,hc,hm,hz,hl,fun hn=> ?_⟩;obtain⟨b,off,rfl,hlt,h⟩:=h hn;exact⟨b,off,rfl,by omega,h⟩
theorem Rd.drewN {B size n:Nat}{v:Value}{xs:List Value}{W:World}(h:Rd B size v n xs W)(k:Nat):Rd B size v n xs (W.drewN k):=h
theorem Rd.len {B size n:Nat}{v:Value}{xs:List Value}{W:World}(h:Rd B size v n xs W):xs.length=n*size:=by
 obtain⟨ao,cap,rfl,hc,hm,hz,hl,h⟩:=h;exact hl
theorem Rd.none0 (B size:Nat)(W:World):Rd B size (.slice none 0 0) 0 [] W :=
 ⟨_,0,rfl,Nat.zero_le _,Nat.zero_le _,fun _=>rfl,by simp,fun h=>absurd h (by omega)⟩
theorem addr_add0 (g k:Nat):(⟨g,0,none⟩:Addr).add k=⟨g,k,none⟩:=by
 cases k with
 | zero=>rfl
 | succ k=>simp[Addr.add]
theorem Rd.own {B base size n:Nat}{e:TypeId}{v:Value}{xs:List Value}{W:World}(h:W.ownsRow base e size v n xs)(hB:W.heap.size≤B):Rd B size v n xs W:=by
 rcases id h.2 with⟨rfl,h0⟩ | ⟨g,cap,cur,rfl,hb,hh,hn,hm,_⟩
 · subst h0
   have:=h.1;obtain rfl:=List.eq_nil_of_length_eq_zero (by simpa using this);exact Rd.none0 _ _ _
 · refine⟨_,cap,rfl,hn,hm,fun e=>(by cases e),h.1,fun _=>⟨g,0,rfl,Nat.lt_of_lt_of_le (h.lt g rfl).2 hB,fun j u hu=> ?_⟩⟩
   have:=h.cells (g:=g) rfl j u hu;rw[addr_add0]at this
   rwa [Nat.zero_add]
def cutA (ao:Option Addr)(k cap:Nat):Option Addr:=if cap=k then ao else ao.map (·.add k)
theorem Rd.tail {B n:Nat}{ao:Option Addr}{cap:Nat}{xs:List Value}{W:World}(h:Rd B 1 (.slice ao n cap) n xs W)(k:Nat)(hk:k≤n):Rd B 1 (.slice (cutA ao k cap) (n-k) (cap-k)) (n-k) (xs.drop k) W:=by
 obtain⟨ao',cap',e,hc,hm,hz,hl,h⟩:=h;injection e with e1 _ e2;subst e1;subst e2;refine⟨_,_,rfl,by omega,by omega,fun e=> ?_,by rw[List.length_drop];omega,fun hn=> ?_⟩
 · have:ao=Option.none:=by
    unfold cutA at e;split at e
    · exact e
    · cases ao with
      | none=>rfl
      | some a=>cases e
   have:=hz this;omega
 obtain⟨b,off,rfl,hb,h⟩:=h (by omega);refine⟨b,off+k,?_,hb,fun j u hu=> ?_⟩
 · unfold cutA
   rw[if_neg (by omega)];simp[add_plain]
 · rw[Nat.add_assoc]
   exact h _ u (by rw[←hu,List.getElem?_drop])
theorem Rd.at {B size n:Nat}{v:Value}{xs:List Value}{W:World}(h:Rd B size v n xs W)(hn:0<n) :
 ∃b off cap,v = .slice (some ⟨b,off,none⟩) n cap∧n≤cap∧cap≤maxLen∧b<B∧xs.length=n*size∧∀j u,xs[j]? = some u→W.cell? ⟨b,off+j,none⟩=some u:=by
 obtain⟨ao,cap,rfl,hc,hm,hz,hl,h⟩:=h;obtain⟨b,off,rfl,hb,h⟩:=h hn;exact⟨b,off,cap,rfl,hc,hm,hb,hl,h⟩
theorem Rd.form {B size n:Nat}{v:Value}{xs:List Value}{W:World}(h:Rd B size v n xs W) : ∃ao cap,v = .slice ao n cap∧n≤cap∧cap≤maxLen:=by
 obtain⟨ao,cap,rfl,hc,hm,_⟩:=h;exact⟨ao,cap,rfl,hc,hm⟩
theorem ownsRow_below {W W':World}{base B:Nat}{e:TypeId}{size n:Nat}{v:Value}{xs:List Value}(h:W.ownsRow base e size v n xs)(hb:Below B W W')(hB:W.heap.size≤B):W'.ownsRow base e size v n xs:=by
 refine⟨h.1,h.2.imp id ?_⟩;rintro⟨g,cap,cur,h1,h2,h3,h4⟩;exact⟨g,cap,cur,h1,h2,(hb.block g (by have:=(Array.getElem?_eq_some_iff.1 h3).1;omega)).trans h3,h4⟩
theorem own_form {W:World}{base:Nat}{e:TypeId}{size:Nat}{v:Value}{n:Nat}{xs:List Value}(h:W.ownsRow base e size v n xs) : ∃ao cap,v = .slice ao n cap:=by
 rcases h.2 with⟨rfl,h0⟩ | ⟨g,cap,cur,rfl,_⟩
 · exact⟨Option.none,0,by rw[h0]⟩
 · exact⟨_,cap,rfl⟩
theorem wpList_append_rd {P:Program}{w:World}{ops:Array Oper}{rest:List Oper}{o:Oper}{a:Act}{Q:Exit→Act→World→Prop}(hw:Region.wanted o (yielded ops a.tmps)=true)(s x:Operand)(t:TypeId)
 (ho:o.op = .call { callee:= .builtin .append,args:= #[s,x],argTypes:= #[t,t]})
 (base:Nat) (e:TypeId) (i:TypeInfo) (z:Value) (size bytes:Nat) (ht:P.underlying t=some (.slice e)) (hi:P.info? e=some i) (hz:i.zero=some z) (hsize:i.size=size) (hby:i.bytes=bytes) (hzs:z.cells.size=size) (hsz:0<size)
 (v:Value) (n:Nat) (xs:List Value) (hs:a.eval s=v) (hown:w.ownsRow base e size v n xs) (B:Nat) (vx:Value) (m:Nat) (ms:List Value) (hx:a.eval x=vx) (hr:Rd B size vx m ms w) (h1 : ∀u∈ms,u.oneCell'=true)
 (h63:n+m≤maxLen) (hbytes:(n+m)*bytes≤140737488355328) (hbase:base≤w.heap.size)
 (h : ∀v' w',w'.ownsRow base e size v' (n+m) (xs++ms)→w.grownBy w' v.ownBlock→wpList P ops Q rest (a.put o.dst v') w'):wpList P ops Q (o::rest) a w:=by
  (refine wpList_step fun K hK=> ?_);rw[if_pos hw];obtain⟨ao,cap,rfl,hc,hm,h0,hl,hcell⟩:=hr
  cases ao with
  | none =>
     obtain rfl:=h0 rfl;(obtain rfl:m=0:=by omega);obtain rfl:=List.eq_nil_of_length_eq_zero (by simpa using hl);have hrun:=run_append_owned_none (P:=P) (w:=w) base t o.type e i size ht hi v n xs hown;unfold Oper.wp;simp[execOp,ho,resolve,invoke,builtin,hs,hx,hrun,Result.andThen];exact hK _ _ (h v w (by simpa using hown) (World.grownBy.refl w _))
  | some ad =>
     refine wp_append_own w s x t ho base e i z size bytes ht hi hz hsize hby hzs hsz v n xs hs hown ad m cap ms hx hl (fun j u hu=> ?_) h1 h63 hbytes hbase fun v' w' h2 h3 _=>hK _ _ (h v' w' h2 h3)
     have hpos:0<m:=by
      rcases Nat.eq_zero_or_pos m with h | h
      · subst h
        obtain rfl:=List.eq_nil_of_length_eq_zero (by simpa using hl);simp at hu
      · exact h
     obtain⟨b,off,e,_,hcc⟩:=hcell hpos;injection e with e;subst e;rw[add_plain];exact hcc j u hu
def NewV (B:Nat)(v:Value):Prop:=∀g,v.ownBlock=some g→B≤g
theorem NewV.own {W:World}{base:Nat}{e:TypeId}{size:Nat}{v:Value}{n:Nat}{xs:List Value}(h:W.ownsRow base e size v n xs):NewV base v:=fun g hg=>(h.lt g hg).1
theorem NewV.none0 (B:Nat):NewV B (.slice none 0 0):=fun g hg=>by simp[Value.ownBlock]at hg
theorem NewV.mono {B B':Nat}{v:Value}(h:NewV B v)(hb:B'≤B):NewV B' v:=fun g hg=>Nat.le_trans hb (h g hg)
theorem Rd.grown {W W':World}{B size n:Nat}{v:Value}{xs:List Value}{row:Option Nat}(h:Rd B size v n xs W)(hg:W.grownBy W' row)(hB:B≤W.heap.size)(hne : ∀g,row=some g→v.ownBlock≠some g):Rd B size v n xs W':=by
 obtain⟨ao,cap,rfl,hc,hm,hz,hl,h⟩:=h;refine⟨ao,cap,rfl,hc,hm,hz,hl,fun hn=> ?_⟩;obtain⟨b,off,rfl,hb,h⟩:=h hn;refine⟨b,off,rfl,hb,fun j u hu=> ?_⟩;rw[World.cell?_of_block (a:=⟨b,off+j,Option.none⟩) (hg.block b (by omega) (fun e=>hne b e.symm rfl))];exact h j u hu
def strs (l:List Str):List Value:=l.map fun s=> .string (bs s)
end Go.Proofs.YtpbmbpefophlfaaGreatDoor
namespace Go.Proofs.YtpbmbpefophlfaaGreatDoor
abbrev Nm:=List UInt8
abbrev EntL:=Nm × Int
theorem lt_irr (a:Nm): ¬a<a:=List.lt_irrefl a
theorem lt_tr {a b c:Nm}(h:a<b)(g:b<c):a<c:=List.lt_trans h g
theorem lt_as {a b:Nm}(h:a<b): ¬b<a:=List.lt_asymm h
theorem lt_eq {a b:Nm}(h: ¬a<b)(g: ¬b<a):a=b:=List.le_antisymm (List.not_lt.1 g) (List.not_lt.1 h)
theorem lt_ne {a b:Nm}(h:a<b):a≠b:=fun e=>by subst e;exact lt_irr _ h
def barredL (c:UInt8):Bool:=c == 47 || c == 0
def legalL (s:Nm):Int:=if s = []∨s = [46]∨s = [46,46]∨s.any barredL=true then 1 else if 12<s.length then 9 else 0
theorem legal_len {s:Nm}(h:legalL s=0):s.length≤12:=by
 unfold legalL at h;split at h
 · cases h
 · split at h
   · cases h
   · omega
def Up (l:List EntL):Prop:=l.Pairwise fun a b=>a.1<b.1
def SortedP (l:List EntL):Prop:=(∀e∈l,legalL e.1=0)∧Up l
instance (l:List EntL):Decidable (SortedP l):=by unfold SortedP Up;infer_instance
theorem SortedP.sub {l m:List EntL}(h:SortedP l)(hs:List.Sublist m l):SortedP m :=
 ⟨fun e he=>h.1 e (hs.subset he),h.2.sublist hs⟩
theorem sorted_nil:SortedP []:=⟨fun _ h=>(by cases h),List.Pairwise.nil⟩
theorem sorted_succ {l:List EntL}{k:Nat}(h:k<l.length)(hs:SortedP (l.take k))(hl:legalL l[k].1=0)(ho : ∀j (hj:j<l.length),k=j+1→l[j].1<l[k].1):SortedP (l.take (k+1)):=by
 rw[List.take_succ_eq_append_getElem h];refine⟨fun e he=> ?_,?_⟩
 · rcases List.mem_append.1 he with he | he
   · exact hs.1 e he
   · obtain rfl:=List.mem_singleton.1 he
     exact hl
 · refine List.pairwise_append.2 ⟨hs.2,List.pairwise_singleton _ _,fun a ha b hb=> ?_⟩
   obtain rfl:=List.mem_singleton.1 hb;obtain⟨i,hi,rfl⟩:=List.mem_iff_getElem.1 ha;rw[List.length_take]at hi;(have hik:i<k:=by omega);obtain⟨j,rfl⟩ : ∃j,k=j+1:=⟨k-1,by omega⟩;have h1:=ho j (by omega) rfl;rw[List.getElem_take];rcases Nat.lt_or_ge i j with h2 | h2
   · have:=List.pairwise_iff_getElem.1 hs.2 i j (by rw[List.length_take];omega) (by rw[List.length_take];omega) h2
     rw[List.getElem_take,List.getElem_take]at this;exact lt_tr this h1
   · obtain rfl:i=j:=by omega
     exact h1
theorem sorted_order {l:List EntL}(hs:SortedP l){j k:Nat}(hk:k<l.length)(h:k=j+1):(l[j]'(by omega)).1<l[k].1 :=
 List.pairwise_iff_getElem.1 hs.2 j k (by omega) hk (by omega)
def lo (l:List EntL)(n:Nm):List EntL:=l.filter fun e=>decide (e.1<n)
def hi (l:List EntL)(n:Nm):List EntL:=l.filter fun e=>decide (n<e.1)
def findL (l:List EntL)(n:Nm):Option Int:=(l.find? fun e=>e.1 == n).map (·.2)
def dropL (l:List EntL)(n:Nm):List EntL:=l.filter fun e=> !(e.1 == n)
def putL (l:List EntL)(e:EntL):List EntL:=lo l e.1++e::hi l e.1
end Go.Proofs.YtpbmbpefophlfaaGreatDoor
namespace Go.Proofs.YtpbmbpefophlfaaGreatDoor
def xs (l:List UInt8):Nat:=(l.reverse.takeWhile (fun c=>c == 88)).length
end Go.Proofs.YtpbmbpefophlfaaGreatDoor
namespace Go.Proofs.YtpbmbpefophlfaaGreatDoor
open Go.RowKit Go.Shelf
end Go.Proofs.YtpbmbpefophlfaaGreatDoor
namespace Go.Proofs.YtpbmbpefophlfaaGreatDoor
open Go.RowKit Go.Shelf
end Go.Proofs.YtpbmbpefophlfaaGreatDoor
namespace Go.Proofs.YtpbmbpefophlfaaGreatDoor
open Go.RowKit Go.Shelf
theorem legal_err {s:Nm}(h:s = []∨s = [46]∨s = [46,46]∨s.any barredL=true):legalL s=1:=if_pos h
theorem legal_long {s:Nm}(h: ¬(s = []∨s = [46]∨s = [46,46]∨s.any barredL=true))(hl:12<s.length):legalL s=9:=by unfold legalL;rw[if_neg h,if_pos hl]
theorem legal_ok {s:Nm}(h: ¬(s = []∨s = [46]∨s = [46,46]∨s.any barredL=true))(hl: ¬12<s.length):legalL s=0:=by unfold legalL;rw[if_neg h,if_neg hl]
theorem empty_false {s:Nm}(h:s≠ []):s.isEmpty=false:=by cases s with | nil=>exact absurd rfl h | cons a l=>rfl
theorem beq_list_false {a b:Nm}(h:a≠b):(a == b)=false:=by rw[beq_eq_false_iff_ne];exact h
theorem any_take8 (s:Nm)(p:UInt8→Bool)(k:Nat)(h:k<s.length):(s.take (k+1)).any p=((s.take k).any p || p s[k]):=by
 rw[List.take_succ_eq_append_getElem h,List.any_append];simp
set_option maxRecDepth 100000 in
set_option maxHeartbeats 1000000 in
theorem rlegal_any (s:Nm)(hm:s.length≤maxLen)(w:World):Calls Tryz.prog 145 #[.string (bs s)] w fun e w'=>e = .returned (.int .i64 (legalL s))∧w=w':=by
 unfold maxLen at hm;by_cases h0:s = []
 · subst h0
   go_enter Tryz.func145,Tryz.ntmps145;go_wp2_with fail;go_ret;exact⟨ret_int rfl,rfl⟩
 by_cases h1:s = [46]
 · subst h1
   go_enter Tryz.func145,Tryz.ntmps145;go_wp2_with fail;go_ret;exact⟨ret_int rfl,rfl⟩
 by_cases h2:s = [46,46]
 · subst h2
   go_enter Tryz.func145,Tryz.ntmps145;go_wp2_with fail;go_ret;exact⟨ret_int rfl,rfl⟩
 have e0:=empty_false h0;have e1:=beq_list_false h1;have e2:=beq_list_false h2
 have HN:Hid (s.any barredL=false→¬(s = []∨s = [46]∨s = [46,46]∨s.any barredL=true)):=Lib.hid fun hb=>by
  rintro(h | h | h | h)
  · exact h0 h
  · exact h1 h
  · exact h2 h
  · rw[hb]at h;cases h
 clear h0 h1 h2;go_enter Tryz.func145,Tryz.ntmps145;go_wp2_with fail;clear e0 e1 e2;go_loop [3] (fun i=>∃k:Nat,i = .int .i64 k∧k≤s.length∧Hid ((s.take k).any barredL=false)) (fun i=>s.length-(intOf i).toNat)
 case atStart=>exact⟨0,rfl,Nat.zero_le _,Lib.hid rfl⟩
 case round =>
  obtain⟨k,rfl,hk,hal⟩:=hrel;by_cases hlt:k<s.length
  · have ht:=any_take8 s barredL k hlt
    have hm1:s[k]∈s:=List.getElem_mem hlt;obtain⟨x,hx⟩ : ∃x:UInt8,x=s[k]:=⟨s[k],rfl⟩;(have hg : ∀h,(bs s)[k]'h=x:=fun h=>by rw[hx];exact bs_get s k h);rw[←hx]at ht hm1;clear hx;by_cases hq:x=47
    · have hI:((x.toNat:Int) == 47)=true:=by rw[hq];rfl
      have H:Hid (legalL s=1):=Lib.hid (legal_err (.inr (.inr (.inr (List.any_eq_true.2 ⟨x,hm1,by rw[hq];rfl⟩)))));clear ht hm1 hq;go_wp2_with fail;go_ret;exact⟨ret_int H.out.symm,rfl⟩
    · have hI:((x.toNat:Int) == 47)=false:=by
       rw[beq_eq_false_iff_ne];exact fun e=>hq (UInt8.toNat_inj.1 (by simp;omega))
      by_cases hz:x=0
      · have hJ:((x.toNat:Int) == 0)=true:=by rw[hz];rfl
        have H:Hid (legalL s=1):=Lib.hid (legal_err (.inr (.inr (.inr (List.any_eq_true.2 ⟨x,hm1,by rw[hz];rfl⟩)))));clear ht hm1 hq hz;go_wp2_with fail;go_ret;exact⟨ret_int H.out.symm,rfl⟩
      · have hJ:((x.toNat:Int) == 0)=false:=by
         rw[beq_eq_false_iff_ne];exact fun e=>hz (UInt8.toNat_inj.1 (by simp;omega))
        have HB:Hid ((s.take (k+1)).any barredL=false):=Lib.hid (by
         rw[ht,hal.out]
         simp[barredL,hq,hz])
        clear ht hm1 hq hz;go_wp2_with fail;go_round
        case rel=>exact⟨k+1,by go_num,hlt,HB⟩
        case measure=>simp[intOf];omega
  · have hke:k=s.length:=by omega
    have HB:=HN.out (by have:=hal.out;rwa [hke,List.take_length]at this);(have hI2:decide (k<s.length)=false:=by simp;omega);by_cases hl:12<s.length
    · have H:Hid (legalL s=9):=Lib.hid (legal_long HB hl)
      (have hI:decide ((12:Int)<(s.length:Int))=true:=by simp;omega);clear hke hlt hl HB;go_wp2_with fail;go_ret;exact⟨ret_int H.out.symm,rfl⟩
    · have H:Hid (legalL s=0):=Lib.hid (legal_ok HB hl)
      (have hI:decide ((12:Int)<(s.length:Int))=false:=by simp;omega);clear hke hlt hl HB;go_wp2_with fail;go_ret;exact⟨ret_int H.out.symm,rfl⟩
end Go.Proofs.YtpbmbpefophlfaaGreatDoor
namespace Go.Proofs.YtpbmbpefophlfaaGreatDoor
open Go.RowKit Go.Shelf
attribute [local go_sem ↓] Go.wp_at_zero Go.wp_at_succ
def ents (l:List EntL):List Value:=l.flatMap fun e=> [.string (bs e.1), .int .i64 e.2]
theorem ents_app (a b:List EntL):ents (a++b)=ents a++ents b:=by simp[ents]
theorem ents_at0 (l:List EntL)(k:Nat)(h:k<l.length):(ents l)[k*2]? = some (.string (bs (l[k]).1)):=by
 induction l generalizing k with
 | nil=>simp at h
 | cons f l ih =>
    cases k with
    | zero=>rfl
    | succ k =>
       have:=ih k (by simpa using h);rw[show(k+1)*2=k*2+2 by omega];simpa[ents]using this
theorem ents_at1 (l:List EntL)(k:Nat)(h:k<l.length):(ents l)[k*2+1]? = some (.int .i64 (l[k]).2):=by
 induction l generalizing k with
 | nil=>simp at h
 | cons f l ih =>
    cases k with
    | zero=>rfl
    | succ k =>
       have:=ih k (by simpa using h);rw[show(k+1)*2+1=k*2+1+2 by omega];simpa[ents]using this
theorem ents_one (l:List EntL) : ∀u∈ents l,u.oneCell'=true:=by
 intro u hu;obtain⟨e,_,h⟩:=List.mem_flatMap.1 hu;simp only[List.mem_cons,List.not_mem_nil,or_false]at h;rcases h with rfl | rfl<;>rfl
def Fit (l:List EntL):Prop:=∀e∈l,e.1.length≤maxLen
theorem bless (a b:Nm):Op.bytesLess a b=decide (a<b):=by
 induction a generalizing b with
 | nil=>cases b<;>simp[Op.bytesLess]
 | cons x a ih =>
    cases b with
    | nil=>simp[Op.bytesLess]
    | cons y b =>
       rw[Op.bytesLess,ih,Bool.eq_iff_iff,decide_eq_true_iff,List.cons_lt_cons_iff];simp
theorem bless_yes {a b:Nm}(h:a<b):Op.bytesLess a b=true:=by rw[bless];simpa using h
theorem bless_no {a b:Nm}(h: ¬a<b):Op.bytesLess a b=false:=by rw[bless];simpa using h
theorem leq_ways {a b:Nm}(h: ¬b<a):(Op.bytesLess a b=true∧(a == b)=false)∨(Op.bytesLess a b=false∧(a == b)=true):=by
 by_cases e:a<b
 · exact .inl ⟨bless_yes e,beq_list_false (lt_ne e)⟩
 · refine .inr ⟨bless_no e,?_⟩
   rw[lt_eq e h];simp
theorem not_legal {l:List EntL}{k:Nat}(h:k<l.length)(hl:legalL l[k].1≠0):decide (SortedP l)=false:=by
 rw[decide_eq_false_iff_not];exact fun hs=>hl (hs.1 _ (List.getElem_mem h))
theorem not_order {l:List EntL}{j:Nat}(h:j+1<l.length)(hl: ¬(l[j]'(by omega)).1<l[j+1].1):decide (SortedP l)=false:=by
 rw[decide_eq_false_iff_not];exact fun hs=>hl (sorted_order hs h rfl)
end Go.Proofs.YtpbmbpefophlfaaGreatDoor
namespace Go.Proofs.YtpbmbpefophlfaaGreatDoor
open Go.RowKit Go.Shelf
attribute [local go_sem ↓] Go.wp_at_zero Go.wp_at_succ
theorem infoREnt:(Tryz.prog.info? 147).map (fun i=>(i.zero,i.size,i.bytes))=some (some (.agg #[.string ⟨#[]⟩, .int .i64 0]),2,24):=by kernel_rfl
theorem eqEnt (x y:EntL)(w:World):(Op.equalIn 10000 147 (.agg #[.string (bs x.1), .int .i64 x.2]) (.agg #[.string (bs y.1), .int .i64 y.2])).run Tryz.prog w = .ok (decide (x=y)) w:=by
 have u3:=Tryz.underlying3;have u9:=Tryz.underlying9;have a3:=Tryz.isAgg3;have a9:=Tryz.isAgg9;(have hS:Tryz.prog.underlying 147=some (.struct (Tryz.prog.fieldsOf 147)):=by kernel_rfl);rw[show(10000:Nat)=9998+1+1 from rfl,run_equalIn_agg w (9998+1) 147 _ _ hS (by kernel_rfl)];simp only[Program.fieldsOf,Tryz.underlying147];go_simp;obtain⟨x1,x2⟩:=x;obtain⟨y1,y2⟩:=y;by_cases h1:x1=y1<;>by_cases h2:x2=y2<;>simp[h1,h2]
theorem entGuard:Tryz.prog.eqGuardType Tryz.prog.depth 147=false:=by kernel_rfl
def sameTo {α:Type} [DecidableEq α] (a b:List α)(k:Nat):Prop:=a.take k=b.take k
theorem sameTo_succ {α:Type} [DecidableEq α] {a b:List α}{k:Nat}(h:sameTo a b k)(ha:k<a.length)(hb:k<b.length)(e:a[k]=b[k]):sameTo a b (k+1):=by
 unfold sameTo at h ⊢;rw[List.take_succ_eq_append_getElem ha,List.take_succ_eq_append_getElem hb,h,e]
set_option maxRecDepth 100000 in
set_option maxHeartbeats 1000000 in
theorem same_any (B:Nat)(va vb:Value)(a b:List EntL)(w:World)(hva:Rd B 2 va a.length (ents a) w)(hvb:Rd B 2 vb b.length (ents b) w)(ha:a.length≤10000000)(hb:b.length≤10000000) :
 Calls Tryz.prog 75 #[va,vb] w fun e w'=>e = .returned (.bool (decide (a=b)))∧∃n,w'=w.drewN n:=by
 obtain⟨aoa,capa,rfl,_,_⟩:=hva.form;obtain⟨aob,capb,rfl,_,_⟩:=hvb.form;have HVA:=Lib.hid hva;have HVB:=Lib.hid hvb;clear hva hvb;by_cases hl:a.length=b.length
 · have hI:((a.length:Int) != (b.length:Int))=false:=by rw[hl];simp
   have HL:=Lib.hid hl;(have hle1:a.length≤b.length:=by omega);(have hle2:b.length≤a.length:=by omega);clear hl;go_enter Tryz.func75,Tryz.ntmps75;go_wp2_with fail;go_loopw [5] (fun i wr=>∃k n:Nat,i = .int .i64 k∧k≤a.length∧Hid (sameTo a b k)∧wr=w.drewN n) (fun i _=>a.length-(intOf i).toNat)
   case atStart=>exact⟨0,0,rfl,Nat.zero_le _,Lib.hid rfl,rfl⟩
   case round =>
    obtain⟨k,n,rfl,hk,hs,rfl⟩:=hrel;by_cases hlt:k<a.length
    · have hltb:k<b.length:=by omega
      obtain⟨ba,offa,capa',ea,_,_,_,_,hca⟩:=HVA.out.at (by omega);obtain⟨bb,offb,capb',eb,_,_,_,_,hcb⟩:=HVB.out.at (by omega);injection ea with ea1 _ ea2;injection eb with eb1 _ eb2;subst ea1 ea2 eb1 eb2;have hc0:=hca _ _ (ents_at0 a k hlt);have hc1:=hcb _ _ (ents_at0 b k hltb);have hc2:w.cell? ⟨ba,offa+k*2+1,none⟩=_:=hca (k*2+1) _ (ents_at1 a k hlt);have hc3:w.cell? ⟨bb,offb+k*2+1,none⟩=_:=hcb (k*2+1) _ (ents_at1 b k hltb);(have k0:(0:Int)≤(k:Int):=by omega);(have k1:(k:Int)<(a.length:Int):=by omega);(have k2:(k:Int)<(b.length:Int):=by omega);clear hca hcb;have heq:=eqEnt a[k] b[k];have hgd:=entGuard;by_cases hq:a[k]=b[k]
      · have hs':=Lib.hid (sameTo_succ hs.out hlt hltb hq)
        (have hI2:decide (a[k]=b[k])=true:=by simpa using hq);rw[hI2]at heq;clear hq hI2;go_wp2_with fail;go_quiet (fail);go_wp2_with fail;go_roundw
        case rel=>exact⟨k+1,n+nq,by go_num,hlt,hs',by first | rfl | exact drewN_two w n nq⟩
        case measure=>simp[intOf];omega
      · have H:Hid (decide (a=b)=false):=Lib.hid (by rw[decide_eq_false_iff_not];intro e;subst e;exact hq rfl)
        (have hI2:decide (a[k]=b[k])=false:=by simpa using hq);rw[hI2]at heq;clear hq hI2;go_wp2_with fail;go_quiet (fail);go_wp2_with fail;go_ret;exact⟨ret_bool H.out.symm,n+nq,by first | rfl | exact drewN_two w n nq⟩
    · have hke:k=a.length:=by omega
      have H:Hid (decide (a=b)=true):=Lib.hid (by
       rw[decide_eq_true_iff];have:=hs.out;unfold sameTo at this
       rwa [hke,List.take_length,HL.out,List.take_length]at this)
      (have hI2:decide (k<a.length)=false:=by simp;omega);clear hke hlt;go_wp2_with fail;go_ret;exact⟨ret_bool H.out.symm,n,rfl⟩
 · have hI:((a.length:Int) != (b.length:Int))=true:=by rw[bne_iff_ne];omega
   have H:Hid (decide (a=b)=false):=Lib.hid (by rw[decide_eq_false_iff_not];intro e;exact hl (by rw[e]));clear hl;go_enter Tryz.func75,Tryz.ntmps75;go_wp2_with fail;go_ret;exact⟨ret_bool H.out.symm,0,rfl⟩
set_option maxRecDepth 100000 in
set_option maxHeartbeats 2000000 in
theorem rsorted_any (B:Nat)(v:Value)(l:List EntL)(w:World)(hv:Rd B 2 v l.length (ents l) w)(hl:l.length≤10000)(hn:Fit l) :
 Calls Tryz.prog 98 #[v] w fun e w'=>e = .returned (.bool (decide (SortedP l)))∧∃n,w'=w.drewN n:=by
 obtain⟨ao,cap,rfl,_,_⟩:=hv.form;have HV:=Lib.hid hv;have HN:=Lib.hid hn;clear hv hn;go_enter Tryz.func98,Tryz.ntmps98;go_wp2_with fail;go_loopw [3] (fun i wr=>∃k n:Nat,i = .int .i64 k∧k≤l.length∧Hid (SortedP (l.take k))∧wr=w.drewN n) (fun i _=>l.length-(intOf i).toNat)
 case atStart=>exact⟨0,0,rfl,Nat.zero_le _,Lib.hid sorted_nil,rfl⟩
 case round =>
  obtain⟨k,n,rfl,hk,hS,rfl⟩:=hrel;by_cases hlt:k<l.length
  · obtain⟨b,off,cap',e,hn,hm,hb,hlen,hc⟩:=HV.out.at (by omega)
    injection e with e1 _ e2;subst e1;subst e2;have hc0:=hc _ _ (ents_at0 l k hlt);have hxm:=HN.out _ (List.getElem_mem hlt);(have HC:Hid (∀j (hj:j<l.length),w.cell? ⟨b,off+j*2,none⟩=some (.string (bs (l[j]).1))):=Lib.hid fun j hj=>hc _ _ (ents_at0 l j hj));obtain⟨x,hx⟩ : ∃x,x=(l[k]).1:=⟨_,rfl⟩;rw[←hx]at hc0 hxm;(have HL : ∀w,Calls Tryz.prog 145 #[.string (bs x)] w fun e w'=>e = .returned (.int .i64 (legalL x))∧w'=w:=fun w=>(rlegal_any x hxm w).mono fun e w' h=>⟨h.1,h.2.symm⟩);have HX:=Lib.hid hx;(have k0:(0:Int)≤(k:Int):=by omega);(have k1:(k:Int)<(l.length:Int):=by omega);clear hc;by_cases hq:legalL x=0
    · rw[hq]at HL
      by_cases h0:k=0
      · have hnx:Hid (SortedP (l.take (k+1))):=Lib.hid (sorted_succ hlt hS.out (by rw[←HX.out];exact hq) fun j _ h=>by omega)
        (have hI:decide (0<k)=false:=by simp;omega);clear hx hq h0;go_wp2_with fail;go_quiet ((go_at_call 145;exact(HL _).mono fun e w' h=>⟨h.1,_,h.2⟩));go_wp2_with fail;go_roundw
        case rel=>exact⟨k+1,n+nq,by go_num,hlt,hnx,by first | rfl | exact drewN_two w n nq⟩
        case measure=>simp[intOf];omega
      · obtain⟨j,hj⟩ : ∃j,k=j+1:=⟨k-1,by omega⟩
        (have hI:decide (0<k)=true:=by simp;omega);(have hk1:(k:Int)-1=(j:Int):=by omega);(have hjl:(j:Int)<(l.length:Int):=by omega);(have hj0:(0:Int)≤(j:Int):=by omega);have hcp:=HC.out j (by omega);obtain⟨y,hy⟩ : ∃y,y=(l[j]'(by omega)).1:=⟨_,rfl⟩;rw[←hy]at hcp;by_cases hord:y<x
        · have hJ:=bless_no (lt_as hord)
          have hJ2:=beq_list_false (lt_ne hord).symm
          have hnx:Hid (SortedP (l.take (k+1))):=Lib.hid (sorted_succ hlt hS.out (by rw[←HX.out];exact hq) fun j' hj' h=>by
           obtain rfl:j'=j:=by omega
           rw[←hy,←HX.out];exact hord)
          clear hx hq h0 hord hj hy;go_wp2_with fail;go_quiet ((go_at_call 145;exact(HL _).mono fun e w' h=>⟨h.1,_,h.2⟩));go_wp2_with fail;go_roundw
          case rel=>exact⟨k+1,n+nq,by go_num,hlt,hnx,by first | rfl | exact drewN_two w n nq⟩
          case measure=>simp[intOf];omega
        · have HF:Hid (decide (SortedP l)=false):=Lib.hid (by
           subst hj
           exact not_order hlt (by rw[←hy,←HX.out];exact hord))
          have hlw:=leq_ways hord;clear hx hq h0 hord hj hy;rcases hlw with⟨hJ,hJ2⟩ | ⟨hJ,hJ2⟩
          all_goals (
           go_wp2_with fail;go_quiet ((go_at_call 145;exact(HL _).mono fun e w' h=>⟨h.1,_,h.2⟩));go_wp2_with fail;go_ret
           exact⟨ret_bool HF.out.symm,n+nq,by first | rfl | exact drewN_two w n nq⟩)
    · have HF:Hid (decide (SortedP l)=false):=Lib.hid (not_legal hlt (by rw[←hx];exact hq))
      (have hI:(legalL x != 0)=true:=by rw[bne_iff_ne];exact hq);generalize legalL x=q at *;clear hx hq;go_wp2_with fail;go_quiet ((go_at_call 145;exact(HL _).mono fun e w' h=>⟨h.1,_,h.2⟩));go_wp2_with fail;go_ret;exact⟨ret_bool HF.out.symm,n+nq,by first | rfl | exact drewN_two w n nq⟩
  · have hke:k=l.length:=by omega
    have HF:Hid (decide (SortedP l)=true):=Lib.hid (by have:=hS.out;rw[hke,List.take_length]at this;simpa using this);(have hI2:decide (k<l.length)=false:=by simp;omega);clear hke hlt;go_wp2_with fail;go_ret;exact⟨ret_bool HF.out.symm,n,rfl⟩
end Go.Proofs.YtpbmbpefophlfaaGreatDoor
namespace Go.Proofs.YtpbmbpefophlfaaGreatDoor
open Go.RowKit Go.Shelf
attribute [local go_sem ↓] Go.wp_at_zero Go.wp_at_succ
end Go.Proofs.YtpbmbpefophlfaaGreatDoor
namespace Go.Proofs.YtpbmbpefophlfaaGreatDoor
open Go.RowKit Go.Shelf
attribute [local go_sem ↓] Go.wp_at_zero Go.wp_at_succ
end Go.Proofs.YtpbmbpefophlfaaGreatDoor
namespace Go.Proofs.YtpbmbpefophlfaaGreatDoor
open Go.RowKit Go.Shelf
attribute [local go_sem ↓] Go.wp_at_zero Go.wp_at_succ
end Go.Proofs.YtpbmbpefophlfaaGreatDoor
namespace Go.Proofs.YtpbmbpefophlfaaGreatDoor
open Go.RowKit Go.Shelf
attribute [local go_sem ↓] Go.wp_at_zero Go.wp_at_succ
end Go.Proofs.YtpbmbpefophlfaaGreatDoor
namespace Go.Proofs.YtpbmbpefophlfaaGreatDoor
open Go.RowKit Go.Shelf
open Go.WideShapes (add_plain)
attribute [local go_sem ↓] Go.wp_at_zero Go.wp_at_succ
theorem infoEnt:(Tryz.prog.info? 148).map (fun i=>(i.zero,i.size,i.bytes))=some (some (.agg #[.string ⟨#[]⟩, .int .i64 0]),2,24):=by kernel_rfl
end Go.Proofs.YtpbmbpefophlfaaGreatDoor
namespace Go.Proofs.YtpbmbpefophlfaaGreatDoor
open Go.RowKit Go.Shelf
open Go.WideShapes (add_plain)
attribute [local go_sem ↓] Go.wp_at_zero Go.wp_at_succ
end Go.Proofs.YtpbmbpefophlfaaGreatDoor
namespace Go.Proofs.YtpbmbpefophlfaaGreatDoor
open Go.RowKit Go.Shelf
open Go.WideShapes (add_plain)
attribute [local go_sem ↓] Go.wp_at_zero Go.wp_at_succ
end Go.Proofs.YtpbmbpefophlfaaGreatDoor
