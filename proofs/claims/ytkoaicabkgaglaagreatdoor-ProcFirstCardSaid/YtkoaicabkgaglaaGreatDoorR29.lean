import Derived.Test.YtkoaicabkgaglaaGreatDoorProg
import Derived.Deep.RegionHeld3
import Derived.Test.YtkoaicabkgaglaaGreatDoorR24
import Derived.Test.YtkoaicabkgaglaaGreatDoorR18
import Derived.Deep.AppendLies
import Derived.BigRegion
import Derived.Test.YtkoaicabkgaglaaGreatDoorR28
import Derived.Test.YtkoaicabkgaglaaGreatDoorShelf
import Derived.Deep.DeepCutAuto
import Derived.Lib.ItoaLen
import Derived.Lib.AppendIntMem
import Derived.Test.YtkoaicabkgaglaaGreatDoorR13
import Derived.Test.YtkoaicabkgaglaaGreatDoorR17
import Derived.Test.YtkoaicabkgaglaaGreatDoorR16
import Derived.Deep.MidRow
import Derived.StillTailTactics
import Derived.Deep.OwnRows
import Derived.Laws.CopyRow
import Derived.Laws.BytesString
import Derived.Lib.ConvBytes
import Derived.Lib.SlBuf
import Derived.Test.YtkoaicabkgaglaaGreatDoorR19
import Derived.Test.YtkoaicabkgaglaaGreatDoorR20
import Derived.Test.YtkoaicabkgaglaaGreatDoorR12
import Derived.Test.YtkoaicabkgaglaaGreatDoorR23
import Derived.Test.YtkoaicabkgaglaaGreatDoorR27
namespace Go.Proofs.YtkoaicabkgaglaaGreatDoor
section
variable {P:Program} {md:Region.Mode} {ops:Array Oper} {Q:Exit→Act→World→Prop} {T F:World→Prop} {s:Nat}
def UntilD (T F:World→Prop)(s:Nat)(listed:Array Bool)(w:World):Prop:=T w∧(listed.getD s true=false→F w)
def anyD (P:Program)(md:Region.Mode)(ops:Array Oper)(Q:Exit→Act→World→Prop)(T F:World→Prop)(s:Nat):Nat→Array Bool→Act→World→Prop
 | 0,listed,a,w=>Region.ready md ops listed = []∧Q .normal a w
 | n+1,listed,a,w=>(Region.ready md ops listed = []→Q .normal a w) ∧
    ∀i,i∈Region.ready md ops listed→wpOp P ops Q i (fun a' w'=>UntilD T F s (listed.setIfInBounds i true) w'∧anyD P md ops Q T F s n (listed.setIfInBounds i true) a' w') a w
theorem anyD.any : ∀ {n:Nat} {listed:Array Bool} {a:Act} {w:World},anyD P md ops Q T F s n listed a w→wpAny P md ops Q n listed a w
 | 0,_,_,_,h=>h
 | _+1,_,_,_,h=>⟨h.1,fun i hi=>wpOp_mono (fun _ _ h'=>h'.2.any) (h.2 i hi)⟩
theorem getD_still {listed:Array Bool}{i:Nat}(h:listed.getD s true=true):(listed.setIfInBounds i true).getD s true=true:=by
 by_cases e:i=s
 · subst e
   rcases Nat.lt_or_ge i listed.size with h1 | h1
   · simp[h1]
   · simp
 · rw[getD_set_ne true e];exact h
theorem anyD.late : ∀ {n:Nat} {listed:Array Bool} {a:Act} {w:World},listed.getD s true=true→wpAnyH P md ops Q T n listed a w→anyD P md ops Q T F s n listed a w
 | 0,_,_,_,_,h=>h
 | _+1,_,_,_,hs,h=>⟨h.1,fun i hi=>wpOp_mono (fun _ _ h'=>⟨⟨h'.1,fun e=>absurd (getD_still hs) (by rw[e];decide)⟩,anyD.late (getD_still hs) h'.2⟩) (h.2 i hi)⟩
theorem anyD.core {i:Nat}{oi:Oper}{v:Value}(U:World→Prop)(R:Array Bool→Prop)(hi:ops[i]? = some oi)(hsel : ∀(j:Nat) (o:Oper) cs b,ops[j]? = some o→o.op≠ .select cs b)
 (hQ : ∀c a w,Q (.panic c) (a.put oi.dst v) w→Q (.panic c) a w) (his:i≠s) (hU : ∀listed w,R listed→UntilD T F s listed w→U w)
 (hR : ∀(listed:Array Bool) (j:Nat),R listed→i∈Region.ready md ops listed→j∈Region.ready md ops listed→j≠i→R (listed.setIfInBounds j true)) :
 ∀(n:Nat) (listed:Array Bool) (a:Act) (w:World),
  (∀j oj,ops[j]? = some oj→j≠i→listed.getD j true=false→(∀e∈oj.after,Region.binds md e=true→e.on≠i)→oi.apart ops oj=true) →
  i∈Region.ready md ops listed→YieldsIf P ops U oi v a→R listed→UntilD T F s listed w →
  anyD P md ops Q T F s n (listed.setIfInBounds i true) (a.put oi.dst v) w→anyD P md ops Q T F s (n+1) listed a w:=by
 (have hiw : ∀(listed:Array Bool) (w:World),UntilD T F s listed w→UntilD T F s (listed.setIfInBounds i true) w:=fun listed w h=>⟨h.1,fun e=>h.2 (by rw[getD_set_ne true his]at e;exact e)⟩);intro n
 induction n with
 | zero =>
    intro listed a w _ hr hy hl hS H;refine⟨fun h=>(by rw[h]at hr;cases hr),fun j hj=> ?_⟩;by_cases e:j=i
    · subst e;exact hy.wpOp hi (hU _ _ hl hS) ⟨hiw _ _ hS,H⟩
    · have h1:=ready_mono hj e
      rw[H.1]at h1
      cases h1
 | succ n ih =>
    intro listed a w hfree hr hy hl hS H;refine⟨fun h=>(by rw[h]at hr;cases hr),fun j hj=> ?_⟩;by_cases e:j=i
    · subst e;exact hy.wpOp hi (hU _ _ hl hS) ⟨hiw _ _ hS,H⟩
    · have h1:=H.2 j (ready_mono hj e)
      have hl':=hR listed j hl hr hj e;have hr':=ready_mono hr (Ne.symm e);obtain⟨hju,oj,hoj,hall⟩:=mem_ready.1 hj
      have hno : ∀d∈oj.after,Region.binds md d=true→d.on≠i:=by
       intro d hd hb heq;have g1:=hall d hd hb;have g0:=(mem_ready.1 hr).1;rw[heq]at g1;rcases Nat.lt_or_ge i listed.size with g | g
       · rw[Array.getD_eq_getD_getElem?,Array.getElem?_eq_getElem g]at g0 g1
         rw[show listed[i]=false from g0]at g1
         cases g1
       · rw[Array.getD_eq_getD_getElem?,Array.getElem?_eq_none g]at g1
         cases g1
      have h2:=wpOp_putIf hoj (hfree j oj hoj e hju hno) (fun cs b=>hsel i oi cs b hi) (fun cs b=>hsel j oj cs b hoj) hQ hy h1;refine wpOp_mono (fun a' w' h3=> ?_) h2;have h4:UntilD T F s (listed.setIfInBounds j true) w':=⟨h3.2.1.1,fun ee=>h3.2.1.2 (by rw[Array.setIfInBounds_comm _ _ (Ne.symm e),getD_set_ne true his];exact ee)⟩;refine⟨h4,ih (listed.setIfInBounds j true) a' w' (fun k ok hk hki hun hn=>hfree k ok hk hki ?_ hn) hr' h3.1 hl' h4 ?_⟩
      · by_cases ejk:j=k
        · subst ejk;exact hju
        · rw[getD_set_ne true ejk]at hun;exact hun
      · rw[Array.setIfInBounds_comm _ _ e]
        exact h3.2.2
section
variable {i:Nat} {oi:Oper} {v:Value} {n:Nat} {listed:Array Bool} {a:Act} {w:World}
theorem anyD.take (hi:ops[i]? = some oi)(hs:Region.noSelect ops=true)(hf:Region.free md ops listed i=true)(hr:(Region.ready md ops listed).contains i=true)
 (hQ : ∀c a w,Q (.panic c) (a.put oi.dst v) w→Q (.panic c) a w) (his:(i == s)=false) (hy:YieldsIf P ops T oi v a) (hS:UntilD T F s listed w)
 (h:anyD P md ops Q T F s n (listed.setIfInBounds i true) (a.put oi.dst v) w):anyD P md ops Q T F s (n+1) listed a w :=
  anyD.core T (fun _=>True) hi (Region.noSelect_spec hs) hQ (by simpa using his) (fun _ _ _ h=>h.1) (fun _ _ _ _ _ _=>trivial) n listed a w (Region.free_spec hi hf) (by simpa using hr) hy trivial hS h
theorem anyD.one (hr:Region.ready md ops listed = [i])(ho:ops[i]? = some oi)(hsl:(listed.setIfInBounds i true).getD s true=true)
 (h : ∀K:Act→World→Prop,Shut (∀a' w',T w'→(T w'→wpAnyH P md ops Q T n (listed.setIfInBounds i true) a' w')→K a' w')→if Region.wanted oi (yielded ops a.tmps)=true then oi.wp P a w K Q else K (a.put oi.dst undef) w):anyD P md ops Q T F s (n+1) listed a w:=by
  refine⟨fun h0=>(by rw[hr]at h0;cases h0),fun j hj=> ?_⟩;rw[hr,List.mem_singleton]at hj;subst hj;have h1:=h (fun a' w'=>UntilD T F s (listed.setIfInBounds j true) w'∧anyD P md ops Q T F s n (listed.setIfInBounds j true) a' w') (fun a' w' ht h2=>⟨⟨ht,fun e=>absurd hsl (by rw[e];decide)⟩,anyD.late hsl (h2 ht)⟩);unfold wpOp;simp only[ho];split
  · rename_i hw
    rw[if_pos hw]at h1;exact .inl h1
  · rename_i hw
    rw[if_neg hw]at h1;exact h1
end
end
end Go.Proofs.YtkoaicabkgaglaaGreatDoor
namespace Go.Proofs.YtkoaicabkgaglaaGreatDoor
open Go.RowKit Go.Shelf
attribute [local go_sem ↓] Go.wp_at_zero Go.wp_at_succ
theorem Ord.add {l:List NodeL}(h:Dsk l){n:NodeL}(hn:SmallN n)(hu:Up n.names)(most room:Int):Ord (addL l most room n):=by
 have hs:Siz 111 130 (addL l most room n):=Siz.add (a:=110) (c:=130) ⟨h.sm.1,h.sm.2⟩ hn most room;refine⟨Nat.le_trans hs.1 (by decide),fun m hm=>Nat.le_trans (hs.2 m hm).2 (by decide),fun m hm=> ?_⟩;have ho:=h.ord.up;unfold addL at hm;split at hm
 · exact ho m hm
 · split at hm
   · rcases List.mem_append.1 hm with hm | hm
     · exact ho m hm
     · rw[List.mem_singleton]at hm;subst hm;exact hu
   · rcases List.mem_or_eq_of_mem_set hm with hm | rfl
     · exact ho m hm
     · exact hu
end Go.Proofs.YtkoaicabkgaglaaGreatDoor
namespace Go.Proofs.YtkoaicabkgaglaaGreatDoor
open Go.RowKit Go.Shelf
attribute [local go_sem ↓] Go.wp_at_zero Go.wp_at_succ
theorem KrnOk.nms {k:KernL}(h:KrnOk k) : ∀n∈k.l,n.names.length≤10000:=fun n hm=>Nat.le_trans (h.dsk.sm.2 n hm).2 (by decide)
end Go.Proofs.YtkoaicabkgaglaaGreatDoor
namespace Go.Proofs.YtkoaicabkgaglaaGreatDoor
open Go.RowKit Go.Shelf
attribute [local go_sem ↓] Go.wp_at_zero Go.wp_at_succ
def WorkIs (X:Nat→Prop)(bw a:Nat)(c:CallL)(R:DoL)(e:Ending)(w w':World):Prop :=
 ∃r ar cr ev cs,e = .returned (.tuple #[replyV r (.slice ar r.ls.length cr),ev])∧ErrK R.2.e ev∧BelB bw w w'∧LsX r.ls (.slice ar r.ls.length cr) X w'∧w'.heap[bw]? = some (.cells cs 137 (0,0))
  ∧ (R.2.e=0→r=R.2∧∃ao co ad cd af cf ap cp,cs = #[.slice ao R.1.l.length co, .int .i64 R.1.most, .int .i64 R.1.room, .slice ad R.1.t.ds.length cd, .slice af R.1.t.fs.length cf, .slice ap R.1.ps.length cp, .int .i64 (a:Int), .int .i64 c.kind, .int .i64 c.fd, .int .i64 c.fd2, .int .i64 c.n, .int .i64 c.mode, .int .i64 c.flags, .string (bs c.path), .string (bs c.path2), .string (bs c.data)]
   ∧ DiskX R.1.l (.slice ao R.1.l.length co) X w'∧TabX R.1.t (.slice ad R.1.t.ds.length cd) (.slice af R.1.t.fs.length cf) X w'∧PsX R.1.ps (.slice ap R.1.ps.length cp) X w')
theorem WorkIs.no {X:Nat→Prop}{bw a:Nat}{c:CallL}{k:KernL}{n:Int}{r:ReplyL}{ar:Option Addr}{cr:Nat}{ev:Value}{cs:Array Value}{w w':World}(hv:ErrK n ev)(hn:n≠0)(hb:BelB bw w w')(hl:LsX r.ls (.slice ar r.ls.length cr) X w')(hw:w'.heap[bw]? = some (.cells cs 137 (0,0))) :
 WorkIs X bw a c (k,errR n) (.returned (.tuple #[replyV r (.slice ar r.ls.length cr),ev])) w w':=⟨r,ar,cr,ev,cs,rfl,hv,hb,hl,hw,fun h=>absurd h hn⟩
end Go.Proofs.YtkoaicabkgaglaaGreatDoor
namespace Go.Proofs.YtkoaicabkgaglaaGreatDoor
open Go.RowKit Go.Shelf
attribute [local go_sem ↓] Go.wp_at_zero Go.wp_at_succ
theorem wpList_load_midG {P:Program}{ops:Array Oper}{rest:List Oper}{op:Oper}{a:Act}{w:World}{Q:Exit→Act→World→Prop}(hw:Region.wanted op (yielded ops a.tmps)=true)(ty:TypeId)(x:Operand)(ho:op.op = .load ty x)
 (b o:Nat) (hx:a.eval x = .pointer (some ⟨b,o,none⟩)) (cs:List Value) (d:TypeDesc) (hc:w.rangeAt b o cs)
 (hu:P.underlying ty=some d) (hd:d.isRow=true) (hi:(P.info? ty).map (·.size)=some cs.length)
 (h:wpList P ops Q rest (a.put op.dst (.agg cs.toArray)) w):wpList P ops Q (op::rest) a w :=
  wpList_step fun _ hK=>by rw[if_pos hw];exact wp_load_mid ty x ho b o hx cs d hc hu hd hi (hK _ _ h)
end Go.Proofs.YtkoaicabkgaglaaGreatDoor
namespace Go.Proofs.YtkoaicabkgaglaaGreatDoor
open Go.RowKit Go.Shelf
attribute [local go_sem ↓] Go.wp_at_zero Go.wp_at_succ
theorem dskOf {l:List NodeL}(hr:RightP l)(hs:Small l):Dsk l :=
 ⟨fun ms e=>⟨⟨by rw[←pl_len,e];exact Nat.le_trans hs.1 (by decide),fun n hn=>by rw[e]at hn;have:=(hs.2 n hn).2;omega,by rw[e];exact hr⟩,fun n hn=>by rw[e]at hn;have:=(hs.2 n hn).1;omega⟩,hs⟩
end Go.Proofs.YtkoaicabkgaglaaGreatDoor
namespace Go.Proofs.YtkoaicabkgaglaaGreatDoor
open Go.RowKit
def InI (n:Int):Prop:= -9223372036854775808≤n∧n≤9223372036854775807
def PosD (ds:List DescL):Prop:=∀d∈ds,InI d.pos
structure KSt (c:Nat) (k:KernL):Prop where
 rig:RigK k
 siz:KrnS c k
 pos:PosD k.t.ds
theorem KSt.mono {c c':Nat}{k:KernL}(h:KSt c k)(hc:c≤c'):KSt c' k:=⟨h.rig,h.siz.mono hc,h.pos⟩
theorem KSt.ok {c:Nat}{k:KernL}(h:KSt c k)(hc:c≤120):KrnOk k :=
 have sr:=small_right h.rig h.siz
 ⟨h.rig,h.siz.mono hc,dskOf h.rig.rightP ⟨Nat.le_trans sr.1 (by decide),fun n hn=>⟨Nat.le_trans (sr.2 n hn).1 (by decide),by have:=(sr.2 n hn).2;omega⟩⟩⟩
end Go.Proofs.YtkoaicabkgaglaaGreatDoor
namespace Go.Proofs.YtkoaicabkgaglaaGreatDoor
open Go.RowKit Go.Shelf
attribute [local go_sem ↓] Go.wp_at_zero Go.wp_at_succ
def negs (k:Nat):List Value:=List.replicate k (.int .i64 (-1))++List.replicate (8-k) (.int .i64 0)
theorem negs_next {k:Nat}(h:k<8):(negs k).toArray.setIfInBounds k (.int .i64 (-1))=(negs (k+1)).toArray:=by
 (have:k=0∨k=1∨k=2∨k=3∨k=4∨k=5∨k=6∨k=7:=by omega);rcases this with rfl | rfl | rfl | rfl | rfl | rfl | rfl | rfl<;>rfl
theorem negs_at {k:Nat}(h:k<8):(negs k).toArray[k]? = some (.int .i64 0):=by
 (have:k=0∨k=1∨k=2∨k=3∨k=4∨k=5∨k=6∨k=7:=by omega);rcases this with rfl | rfl | rfl | rfl | rfl | rfl | rfl | rfl<;>rfl
def rowM (v:Value):Thing:=RdX 1 v 8 (intC [-1, -1, -1, -1, -1, -1, -1, -1])
set_option maxRecDepth 100000 in
set_option maxHeartbeats 4000000 in
theorem pclosed_c (X:Nat→Prop)(w:World)(hX:Old X w) :
 Calls Tryz.prog 25 #[] w fun e w'=>∃v,e = .returned v∧v.oneCell'=true∧v.cells = #[v]∧rowM v X w'∧Below w.heap.size w w':=by
 have S0:=Lib.hid (Sf.start (G:= []) hX th0);have HOLD:=Lib.hid hX;clear hX;go_enter Tryz.func25,Tryz.ntmps25;go_upto_region 2 with(fail);refine code_fresh1 ?_;intro W1 hb hA0 hs;have S1:=Lib.hid (S0.out.new1 hb hA0);clear hb hA0 hs;go_wp2_with fail;go_loopw [3] (fun i wr=>∃k:Nat,i = .int .i64 k∧k≤8∧Hid (Sf X w [(w.heap.size,(negs k).toArray,120)] [] wr)) (fun i _=>8-(RowKit.intOf i).toNat)
 case atStart=>exact⟨0,rfl,by decide,S1⟩
 case round =>
  clear S1;obtain⟨k,rfl,hk,S6⟩:=hrel;by_cases hlt:k<8
  · have iL:decide (k<8)=true:=decide_eq_true hlt
    have iM:decide ((k:Int)<8)=true:=decide_eq_true (by omega);(have k0:(0:Int)≤(k:Int):=by omega);(have k1:(k:Int)<8:=by omega);have wk:IntKind.i64.wrap ((k:Int)+1)=(k:Int)+1:=Go.IntWalk.i64_in _ (by omega);(have cA:wr.cell? ⟨w.heap.size,k,none⟩=some (.int .i64 0):=by rw[Lib.cell_of_heap (S6.out.at 0 rfl)];exact negs_at hlt);have fA:=Lib.frozen_of_heap (S6.out.at 0 rfl) k;go_upto_region 6 with(fail);have hold:=S6.out.at 0 rfl;refine code_set1 hold ?_;intro W7 hb hg hs hn;rw[negs_next hlt]at hn;have S7:=Lib.hid (S6.out.set 0 rfl hb hg hs hn);clear cA fA hb hg hs hn hold;go_wp2_with fail;go_roundw
    case rel=>exact⟨k+1,by go_num,hlt,S7⟩
    case measure=>simp[RowKit.intOf];omega
  · have iL:decide (k<8)=false:=decide_eq_false hlt
    have iM:decide ((k:Int)<8)=false:=decide_eq_false (by omega);(have hke:k=8:=by omega);subst hke;have hA:=S6.out.at 0 rfl;have hs:=(Array.getElem?_eq_some_iff.1 hA).1;go_wp2_with fail;go_ret;refine⟨_,rfl,rfl,rfl,⟨rd_block (xs:=negs 8) hA rfl (by decide) hs,fun g hg=> ?_⟩,S6.out.bel⟩;intro a n c e _;injection e with e;injection e with e;subst e;have:=HOLD.out g hg;show w.heap.size≠g;omega
def RowsT (vs:List Value):Thing:=fun X W=>∀v,v∈vs→rowM v X W
theorem RowsT.firm (vs:List Value):Firm (RowsT vs):=Firm.all fun _=>RdX.firm _ _ _ _
theorem RowsT.snoc {vs:List Value}{v:Value}{X:Nat→Prop}{W:World}(h:RowsT vs X W)(hv:rowM v X W):RowsT (vs++ [v]) X W:=fun u hu=>by
 rcases List.mem_append.1 hu with hu | hu
 · exact h u hu
 · rw[List.mem_singleton]at hu;subst hu;exact hv
def fillV (vs:List Value)(n:Nat):List Value:=vs++List.replicate (n-vs.length) (.slice none 0 0)
theorem fill_next {vs:List Value}{n:Nat}(h:vs.length<n)(v:Value):(fillV vs n).toArray.setIfInBounds vs.length v=(fillV (vs++ [v]) n).toArray:=by
 unfold fillV;rw[List.setIfInBounds_toArray];congr 1;rw[show n-vs.length=(n-(vs.length+1))+1 by omega,List.replicate_succ,List.set_append_right _ _ (Nat.le_refl _),Nat.sub_self,List.set_cons_zero,List.length_append,List.length_singleton,List.append_assoc];rfl
theorem fill_len {vs:List Value}{n:Nat}(h:vs.length≤n):(fillV vs n).length=n:=by unfold fillV;rw[List.length_append,List.length_replicate];omega
theorem fill_all (vs:List Value):fillV vs vs.length=vs:=by unfold fillV;simp
theorem made_nil (n:Nat):madeCells #[.slice none 0 0] n=(fillV [] n).toArray:=by
 apply Array.toList_inj.1;rw[made_one];unfold fillV;simp
theorem tab_new {vs:List Value}{X:Nat→Prop}{W:World}{vf:Value}(hr:RowsT vs X W)(hf:RdX 1 vf vs.length vs X W):TabX ⟨[],List.replicate vs.length [-1, -1, -1, -1, -1, -1, -1, -1]⟩ (.slice none 0 0) vf X W:=by
 refine⟨vs.map fun v=>([-1, -1, -1, -1, -1, -1, -1, -1],v),?_,RdX.none0 _ _ _,?_,fun m hm=> ?_⟩
 · rw[List.map_map];exact List.map_const'
 · rw[List.length_map,List.map_map]
   rw[show((fun x:RowV=>x.2) ∘ fun v=>([-1, -1, -1, -1, -1, -1, -1, -1],v))=id from rfl,List.map_id];exact hf
 · obtain⟨v,hv,rfl⟩:=List.mem_map.1 hm
   exact hr v hv
set_option maxRecDepth 100000 in
set_option maxHeartbeats 4000000 in
theorem pnew_c (X:Nat→Prop)(n:Int)(w:World)(hX:Old X w) :
 Calls Tryz.prog 10 #[.int .i64 n] w fun e w'=>TabIs X (newT n) e w w':=by
 have S0:=Lib.hid (Sf.start (G:= [RowsT []]) hX (th1 (RowsT.firm _) (fun v hv=>by cases hv)));have HOLD:=Lib.hid hX
 have HRET:Hid (∀(W:World) (cs:Array Value) (fr),W.heap[w.heap.size+0]? = some (.cells cs 28 fr)→cs.size=2→∀tmps:Array Value,tmps.getD 2 undef = .pointer (some ⟨w.heap.size+0,0,none⟩)→(results Tryz.f10 tmps).run Tryz.prog W = .ok (.agg cs) W):=Lib.hid fun W cs fr h hs tmps ht =>
 results_cell_row (p:=2)  (ty:=28) rfl tmps W (w.heap.size+0) _ cs fr _ ht h Tryz.underlying28 rfl (by rw[hs];kernel_rfl)
 obtain⟨iR,hR,hRz,hRs,hRb⟩:=info_parts infoRow;clear hX;go_enter Tryz.func10,Tryz.ntmps10;go_upto_region 1 with(fail);refine code_fresh1 ?_;intro W1 hb hA0 hs;have S1:=Lib.hid (S0.out.new1 hb hA0);clear hb hA0 hs;by_cases h1:n<1
 · have i1:decide (n<1)=true:=decide_eq_true h1
   have HR:Hid (newT n=⟨[],[]⟩):=Lib.hid (by unfold newT;rw[if_neg (by omega),show n.toNat=0 by omega];rfl);go_upto_region 2 with(fail);have h_r:=(S1.out.at 0 rfl);go_wp2_with (first | (refine wpList_store_row rfl 28 _ _ rfl _ rfl rfl h_r rfl (by kernel_rfl) rfl ?_;intro W2 hb hg hs hn;have S2:=Lib.hid (S1.out.set 0 rfl hb hg hs hn);clear hb hg hs hn));refine bodyPost_ret (HRET.out _ _ _ (S2.out.at 0 rfl) rfl _ rfl) rfl ?_;rw[HR.out];exact⟨_,_,rfl,tab_new (vs:= []) (fun v hv=>by cases hv) (RdX.none0 _ _ _),S2.out.bel⟩
 · have i1:decide (n<1)=false:=decide_eq_false h1
   by_cases h2:8<n
   · have i2:decide (8<n)=true:=decide_eq_true h2
     have HR:Hid (newT n=⟨[],[]⟩):=Lib.hid (if_pos h2);go_upto_region 2 with(fail);have h_r:=(S1.out.at 0 rfl);go_wp2_with (first | (refine wpList_store_row rfl 28 _ _ rfl _ rfl rfl h_r rfl (by kernel_rfl) rfl ?_;intro W2 hb hg hs hn;have S2:=Lib.hid (S1.out.set 0 rfl hb hg hs hn);clear hb hg hs hn));refine bodyPost_ret (HRET.out _ _ _ (S2.out.at 0 rfl) rfl _ rfl) rfl ?_;rw[HR.out];exact⟨_,_,rfl,tab_new (vs:= []) (fun v hv=>by cases hv) (RdX.none0 _ _ _),S2.out.bel⟩
   · have i2:decide (8<n)=false:=decide_eq_false h2
     obtain⟨m,rfl⟩:=Int.eq_ofNat_of_zero_le (show 0≤n by omega);have HR:Hid (newT (m:Int)=⟨[],List.replicate m [-1, -1, -1, -1, -1, -1, -1, -1]⟩):=Lib.hid (by unfold newT;rw[if_neg h2];rfl);(have hm8:m≤8:=by omega);have i11:decide (m<1)=false:=decide_eq_false (by omega);have i21:decide (8<m)=false:=decide_eq_false (by omega);clear h1 h2;go_upto_region 3 with(fail);go_upto_region 4 with(first | (at_make;refine wpList_make_row _ rfl (.tmp 12) (.tmp 12) 26 rfl 81 iR (.slice none 0 0) Tryz.underlying26 hR hRz hRs rfl .i64 .i64 m rfl rfl (by rw[hRb];omega) (by omega) ?_;refine wpList_fresh1 ?_;intro W2 hb hn hs;rw[made_nil]at hn;have S2:=Lib.hid (S1.out.new1 hb hn);clear hb hn hs) | (refine wpList_fresh1 ?_;intro W3 hb hn hs;have S3:=Lib.hid (S2.out.new1 hb hn);have h_t:=S3.out.at 2 rfl;clear hb hn hs) | (refine wpList_store_row rfl 28 _ _ rfl _ rfl rfl h_t rfl (by kernel_rfl) rfl ?_;intro W4 hb hg hs hn;have S4:=Lib.hid (S3.out.set 2 rfl hb hg hs hn);clear hb hg hs hn));clear h_t;obtain⟨gf,hgf⟩ : ∃gf,gf=W1.heap.size:=⟨_,rfl⟩;obtain⟨bt,hbt⟩ : ∃bt,bt=W2.heap.size:=⟨_,rfl⟩;rw[←hgf]at S4 ⊢;rw[←hbt]at S4 ⊢;clear hgf hbt;obtain⟨t0,t1⟩:=cells2 (S4.out.at 2 rfl);go_wp2_with fail;go_loopw [18] (fun i wr=>∃(vs:List Value),i = .int .i64 vs.length∧vs.length≤m∧Hid (Sf X w [(w.heap.size,#[.slice none 0 0, .slice none 0 0],28),(gf,(fillV vs m).toArray,81),(bt,#[.slice none 0 0, .slice (some ⟨gf,0,none⟩) m m],28)] [RowsT vs] wr)) (fun i _=>m-(RowKit.intOf i).toNat)
     case atStart=>exact⟨[],rfl,Nat.zero_le _,S4⟩
     case round =>
      clear S4 t0 t1;obtain⟨vs,rfl,hk,S6⟩:=hrel;obtain⟨k,hkv⟩ : ∃k,k=vs.length:=⟨_,rfl⟩;rw[←hkv]at hk ⊢;have HK:=Lib.hid hkv;clear hkv;by_cases hlt:k<m
      · have iL1:decide (k<m)=true:=decide_eq_true (by omega)
        have iM1:decide ((k:Int)<(m:Int))=true:=decide_eq_true (by omega);(have k0:(0:Int)≤(k:Int):=by omega);(have k1:(k:Int)<(m:Int):=by omega);have wk:IntKind.i64.wrap ((k:Int)+1)=(k:Int)+1:=Go.IntWalk.i64_in _ (by omega);have HKM:=Lib.hid (show vs.length<m by rw[←HK.out];exact hlt);go_upto_region 7 with(fail);refine wp_region_held_drew (S:=fun W=>W.cell? ⟨bt,1,none⟩=some (.slice (some ⟨gf,0,none⟩) m m)∧True) (by kernel_rfl) ⟨(cells2 (S6.out.at 2 rfl)).2,trivial⟩ (fun hHeld=> ?_);have S7:=Lib.hid (S6.out.call (Below.refl wr.heap.size wr).drew);generalize wr.drew=W7 at *;clear S6;refine wpAnyH_take (i:=0) (v:= ?v1) rfl (by kernel_rfl) (by kernel_rfl) (by kernel_rfl) (fun _ _ _ h=>h) (Or.inl ⟨by rfl,?hy1⟩) hHeld ?rest1
        case hy1=>(intro w hSw;(try dsimp only at hSw);(try go_split_ands);go_simp;first | done | with_reducible rfl)
        (try simp only[List.getElem_toArray]);(try simp only[List.getElem_cons_succ]);(try simp only[List.getElem_cons_zero]);(try simp only[Act.put]);(try simp only[List.setIfInBounds_toArray]);(try simp only[List.set_cons_succ]);(try simp only[List.set_cons_zero]);refine wpAnyH_take (i:=1) (v:= ?v2) rfl (by kernel_rfl) (by kernel_rfl) (by kernel_rfl) (fun _ _ _ h=>h) (Or.inl ⟨by rfl,?hy2⟩) hHeld ?rest2
        case hy2=>(intro w hSw;(try dsimp only at hSw);(try go_split_ands);go_simp;first | done | with_reducible rfl)
        (try simp only[List.getElem_toArray]);(try simp only[List.getElem_cons_succ]);(try simp only[List.getElem_cons_zero]);(try simp only[Act.put]);(try simp only[List.setIfInBounds_toArray]);(try simp only[List.set_cons_succ]);(try simp only[List.set_cons_zero]);refine wpAnyH_take (i:=2) (v:= ?v3) rfl (by kernel_rfl) (by kernel_rfl) (by kernel_rfl) (fun _ _ _ h=>h) (Or.inl ⟨by rfl,?hy3⟩) hHeld ?rest3
        case hy3=>(intro w hSw;(try dsimp only at hSw);(try go_split_ands);go_simp;first | done | with_reducible rfl)
        (try simp only[List.getElem_toArray]);(try simp only[List.getElem_cons_succ]);(try simp only[List.getElem_cons_zero]);(try simp only[Act.put]);(try simp only[List.setIfInBounds_toArray]);(try simp only[List.set_cons_succ]);(try simp only[List.set_cons_zero]);refine wpAnyH_ready (rs:= [3]) (by kernel_rfl) (by simp) ?_;refine AllReadyH.cons rfl (fun K' hK=> ?_) AllReadyH.nil;go_simp;refine(pclosed_c _ W7 S7.out.oldX).mono ?_;rintro e W8 ⟨v,rfl,hv1,hv2,hv,hb⟩;have S8:=Lib.hid (((S7.out.call hb).more (RowsT.firm (vs++ [v])) (((S7.out.call hb).g 0 rfl).snoc hv)).less (G':= [RowsT (vs++ [v])]) (fun x hx=>by rw[List.mem_singleton]at hx;subst hx;exact List.mem_append_right _ (List.mem_singleton.2 rfl)));clear hb hv hHeld S7;go_wp2_with fail;refine hK.out _ _ ⟨(cells2 (S8.out.at 2 rfl)).2,trivial⟩ (fun hHeld=> ?_);clear hK K';(try simp only[List.getElem_toArray]);(try simp only[List.getElem_cons_succ]);(try simp only[List.getElem_cons_zero]);(try simp only[Act.put]);(try simp only[List.setIfInBounds_toArray]);(try simp only[List.set_cons_succ]);(try simp only[List.set_cons_zero]);refine wpAnyH_take (i:=4) (v:= ?v4) rfl (by kernel_rfl) (by kernel_rfl) (by kernel_rfl) (fun _ _ _ h=>h) (Or.inl ⟨by rfl,?hy4⟩) hHeld ?rest4
        case hy4=>(intro w hSw;(try dsimp only at hSw);(try go_split_ands);go_simp;first | done | with_reducible rfl)
        (try simp only[List.getElem_toArray]);(try simp only[List.getElem_cons_succ]);(try simp only[List.getElem_cons_zero]);(try simp only[Act.put]);(try simp only[List.setIfInBounds_toArray]);(try simp only[List.set_cons_succ]);(try simp only[List.set_cons_zero]);refine wpAnyH_ready (rs:= [5]) (by kernel_rfl) (by simp) ?_;refine AllReadyH.cons rfl (fun K' hK=> ?_) AllReadyH.nil;rw[if_pos (by rfl)];refine wp_store_cell (v:=v) 81 _ _ rfl gf k rfl rfl hv2 hv1 (S8.out.at 1 rfl) (by rw[List.size_toArray,fill_len (Nat.le_of_lt HKM.out),HK.out];exact HKM.out) (by kernel_rfl) ?_;intro W9 hb hg hs hn;rw[HK.out,fill_next HKM.out]at hn;have S9:=Lib.hid (S8.out.set 1 rfl hb hg hs hn);clear hb hg hs hn hHeld S8;refine hK.out _ _ ⟨(cells2 (S9.out.at 2 rfl)).2,trivial⟩ (fun hHeld=> ?_);clear hK K';(try simp only[List.getElem_toArray]);(try simp only[List.getElem_cons_succ]);(try simp only[List.getElem_cons_zero]);(try simp only[Act.put]);(try simp only[List.setIfInBounds_toArray]);(try simp only[List.set_cons_succ]);(try simp only[List.set_cons_zero]);refine wpAnyH_done (by kernel_rfl) ?_ _;go_wp2_with fail;(have hke:k+1=(vs++ [v]).length:=by rw[List.length_append,List.length_singleton,←HK.out]);go_roundw
        case rel=>exact⟨vs++ [v],by rw[←hke];go_num,by rw[←hke];exact hlt,S9⟩
        case measure=>simp[RowKit.intOf];omega
      · have iL1:decide (k<m)=false:=decide_eq_false (by omega)
        have iM1:decide ((k:Int)<(m:Int))=false:=decide_eq_false (by omega);(have hke:k=m:=by omega);subst hke;have h_t:=(S6.out.at 2 rfl);have h_r:=(S6.out.at 0 rfl);go_wp2_with (first | (refine wpList_load_row rfl 28 _ rfl _ rfl 28 _ (0,0) _ h_t Tryz.underlying28 rfl (by kernel_rfl) ?_) | (refine wpList_store_row rfl 28 _ _ rfl _ rfl rfl h_r rfl (by kernel_rfl) rfl ?_;intro W21 hb hg hs hn;have S21:=Lib.hid (S6.out.set 0 rfl hb hg hs hn);clear hb hg hs hn));refine bodyPost_ret (HRET.out _ _ _ (S21.out.at 0 rfl) rfl _ rfl) rfl ?_;have hA:=S21.out.at 1 rfl;have hs:=(Array.getElem?_eq_some_iff.1 hA).1;have hgl:=(S21.out.own 1 rfl).1;have hT:=tab_new (S21.out.gX 0 rfl) (vf:= .slice (some ⟨gf,0,none⟩) k k) (by rw[←HK.out];refine⟨rd_block (xs:=vs) (by rw[HK.out,fill_all]at hA;exact hA) (by rw[←HK.out,Nat.mul_one]) (by unfold maxLen;omega) hs,fun g hg=> ?_⟩;intro a n c e _;injection e with e;injection e with e;subst e;have:=HOLD.out g hg;show gf≠g;omega);rw[←HK.out]at hT;rw[HR.out];exact⟨_,_,rfl,hT,S21.out.bel⟩
end Go.Proofs.YtkoaicabkgaglaaGreatDoor
namespace Go.Proofs.YtkoaicabkgaglaaGreatDoor
open Go.RowKit Go.Shelf
attribute [local go_sem ↓] Go.wp_at_zero Go.wp_at_succ
theorem fitD_right {l:List NodeL}(h:RightP l):FitD l:=fun n hn e he=>Nat.le_trans (Rig.legal h n hn e he) (by decide)
theorem small_disk {k:KernL}(hr:RigK k)(hs:KrnS 121 k):Small k.l:=by
 have sr:=small_right hr hs;exact⟨Nat.le_trans sr.1 (by decide),fun n hn=>⟨Nat.le_trans (sr.2 n hn).1 (by decide),Nat.le_trans (sr.2 n hn).2 (by decide)⟩⟩
theorem size_tab {k:KernL}(hr:RigK k)(hs:KrnS 121 k):SizeT k.t:=by
 have h8:=hr.eight;have hd:=hs.2.2.2;exact⟨by omega,by omega,fun r hm=>by have:=(hr.tab.1 r hm).1;omega⟩
theorem names_small {l:List NodeL}(h:Small l) : ∀n∈l,n.names.length≤10000:=fun n hn=>Nat.le_trans (h.2 n hn).2 (by decide)
set_option maxRecDepth 100000 in
set_option maxHeartbeats 4000000 in
theorem stays12_c (X:Nat→Prop)(k:KernL)(ao ad af ap:Option Addr)(co cd cf cp:Nat)(w:World)(hX:Old X w)(hD:DiskX k.l (.slice ao k.l.length co) X w)(hT:TabX k.t (.slice ad k.t.ds.length cd) (.slice af k.t.fs.length cf) X w)(hP:PsX k.ps (.slice ap k.ps.length cp) X w)(hr:RigK k)(hs:KrnS 121 k):Calls Tryz.prog 8 #[.agg #[.slice ao k.l.length co, .int .i64 k.most, .int .i64 k.room, .slice ad k.t.ds.length cd, .slice af k.t.fs.length cf, .slice ap k.ps.length cp]] w fun e w'=>e = .returned (.bool true)∧Below w.heap.size w w':=by
 have S0:=Lib.hid (Sf.start (G:= [DiskX k.l (.slice ao k.l.length co),TabX k.t (.slice ad k.t.ds.length cd) (.slice af k.t.fs.length cf),PsX k.ps (.slice ap k.ps.length cp)]) hX (th3 (DiskX.firm _ _) hD (TabX.firm _ _ _) hT (PsX.firm _ _) hP));have HS:=Lib.hid (small_disk hr hs);have HT:=Lib.hid (size_tab hr hs);have HP:=Lib.hid hr.procs;have HF:=Lib.hid (fitD_right hr.rightP);have HK:=Lib.hid ((right_K k).2 hr);have HFW:Hid (fewB k=true):=Lib.hid (by unfold fewB;have h1:=HS.out.1;have h2:=HT.out.1;have h3:=HT.out.2.1;have h4:=HP.out;rw[decide_eq_true (by omega),decide_eq_true (by omega),decide_eq_true (by omega),decide_eq_true (by omega)];rfl);clear hX hD hT hP hr hs;go_enter Tryz.func8,Tryz.ntmps8;go_upto_region 1 with(fail);refine code_fresh1 ?_;intro W1 hb hA0 hs;have S1:=Lib.hid (S0.out.new1 hb hA0);clear hb hA0 hs;have h_k:=(S1.out.at 0 rfl);go_wp2_with (first | (refine wpList_load_row rfl 31 _ rfl _ rfl 31 _ (0,0) _ h_k Tryz.underlying31 rfl (by kernel_rfl) ?_));refine(few_c k _ _ _ _ _ _ _ _ W1).mono ?_;rintro e W2 ⟨rfl,hb⟩;clear h_k;have S2:=Lib.hid (S1.out.call hb);rw[HFW.out];clear hb;have h_k:=(S2.out.at 0 rfl);go_wp2_with (first | (refine wpList_load_row rfl 31 _ rfl _ rfl 31 _ (0,0) _ h_k Tryz.underlying31 rfl (by kernel_rfl) ?_) | (refine wpList_load_rowG rfl 31 _ rfl _ rfl 31 _ (0,0) _ h_k Tryz.underlying31 rfl (by kernel_rfl) ?_));refine(kern_c _ k _ _ _ _ _ _ _ _ W2 S2.out.oldX (S2.out.g 0 rfl) (S2.out.g 1 rfl) (S2.out.g 2 rfl) (Nat.le_trans HS.out.1 (by decide)) (names_small HS.out) HT.out (Nat.le_trans HP.out (by decide))).mono ?_
 rintro e W3 ⟨ao2,co2,ad2,cd2,ap2,cp2,rfl,hD,hT,hP,hb⟩;clear h_k;have S3:=Lib.hid ((((S2.out.call hb).more (DiskX.firm _ _) hD).more (TabX.firm _ _ _) hT).more (PsX.firm _ _) hP);clear hD hT hP hb;go_wp2_with fail;refine(rrightK_c k _ _ _ _ _ _ _ _ W3 (S3.out.g 3 rfl) (S3.out.g 4 rfl) (S3.out.g 5 rfl) HT.out HS.out HF.out (Nat.le_trans HP.out (by decide))).mono ?_;rintro e W4 ⟨rfl,hb⟩;have S4:=Lib.hid (S3.out.call hb);rw[HK.out];clear hb;go_wp2_with fail;go_ret;exact⟨rfl,S4.out.bel⟩
def NewOwn (e:Ending)(w w':World):Prop:=∃g,e = .returned (.agg #[.slice (some ⟨g,0,none⟩) 1 1, .int .i64 9, .int .i64 90])∧w'.heap[g]? = some (.cells #[.int .i64 2, .int .i64 63, .int .i64 0, .int .i64 1, .int .i64 0, .int .i64 0, .string (bs []), .slice none 0 0] 64 (0,0))∧w.heap.size≤g∧Below w.heap.size w w'
set_option maxRecDepth 100000 in
set_option maxHeartbeats 1000000 in
theorem new_own (w:World):Calls Tryz.prog 9 #[.int .i64 9, .int .i64 90, .int .i64 63] w fun e w'=>NewOwn e w w':=by
 have hret : ∀(W:World) (cs:Array Value) (fr),W.heap[w.heap.size]? = some (.cells cs 24 fr)→cs.size=3→∀tmps:Array Value,tmps.getD 6 undef = .pointer (some ⟨w.heap.size,0,none⟩)→(results Tryz.f9 tmps).run Tryz.prog W = .ok (.agg cs) W:=fun W cs fr h hs tmps ht =>
  results_cell_row (p:=6) (ty:=24) rfl tmps W w.heap.size _ cs fr _ ht h Tryz.underlying24 rfl (by rw[hs];kernel_rfl)
 have H1:Hid (withinB 9 1 100=true):=Lib.hid (by decide);have H2:Hid (withinB 90 0 1000=true):=Lib.hid (by decide);have H3:Hid (withinB 63 0 63=true):=Lib.hid (by decide);go_enter Tryz.func9,Tryz.ntmps9;go_wp2_with fail;refine(within_any _ _ _ _).mono ?_;rintro e w1 ⟨rfl,rfl⟩;rw[H1.out];go_wp2_with fail;refine(within_any _ _ _ _).mono ?_;rintro e w2 ⟨rfl,rfl⟩;rw[H2.out];go_wp2_with fail;refine(within_any _ _ _ _).mono ?_;rintro e w3 ⟨rfl,rfl⟩;rw[H3.out];go_wp2_with fail;refine fresh2 (P:=fun W=>bodyPost _ _ _ _ _ W) ?_;intro W0 hb0 hP hR hs0;refine bodyPost_ret (hret _ _ _ hP rfl _ rfl) rfl ?_;exact⟨_,rfl,hR,Nat.le_succ _,hb0⟩
def KernIs (X:Nat→Prop)(k:KernL)(e:Ending)(w w':World):Prop:=∃ao co ad cd af cf ap cp,e = .returned (kernV (.slice ao k.l.length co) k.most k.room (.slice ad k.t.ds.length cd) (.slice af k.t.fs.length cf) (.slice ap k.ps.length cp))∧DiskX k.l (.slice ao k.l.length co) X w'∧TabX k.t (.slice ad k.t.ds.length cd) (.slice af k.t.fs.length cf) X w'∧PsX k.ps (.slice ap k.ps.length cp) X w'∧Below w.heap.size w w'
theorem disk_one {X:Nat→Prop}{W:World}{g:Nat}{n:NodeL}{t:TypeId}{fr:Nat × Nat}(h:W.heap[g]? = some (.cells (ncells (n, .slice none 0 0)).toArray t fr))(hn:n.names = [])(hX : ∀q,X q→q≠g):DiskX [n] (.slice (some ⟨g,0,none⟩) 1 1) X W :=
 ⟨[(n, .slice none 0 0)],rfl,rdm_one h hn (Array.getElem?_eq_some_iff.1 h).1,fun q hq=>⟨fun a n' c e _=>by injection e with e;injection e with e;subst e;exact fun e=>hX q hq e.symm,fun x hx=>by rw[List.mem_singleton]at hx;subst hx;exact fun a n' c e _=>by cases e⟩⟩
theorem ps_one {X:Nat→Prop}{W:World}{g:Nat}{x:ProcL}{t:TypeId}{fr:Nat × Nat}(h:W.heap[g]? = some (.cells (prcells x).toArray t fr))(hX : ∀q,X q→q≠g):PsX [x] (.slice (some ⟨g,0,none⟩) 1 1) X W :=
 ⟨rd_block (n:=1) h rfl (by decide) (Array.getElem?_eq_some_iff.1 h).1,fun q hq a n' c e _=>by injection e with e;injection e with e;subst e;exact fun e=>hX q hq e.symm⟩
end Go.Proofs.YtkoaicabkgaglaaGreatDoor
