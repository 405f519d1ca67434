import Derived.Test.YtmiekcdkamgknaaGreatDoorR24
import Derived.Test.YtmiekcdkamgknaaGreatDoorR23
import Derived.Test.YtmiekcdkamgknaaGreatDoorR26
import Derived.Test.YtmiekcdkamgknaaGreatDoorR25
import Derived.Test.YtmiekcdkamgknaaGreatDoorR13
import Derived.Test.YtmiekcdkamgknaaGreatDoorR21
import Derived.Deep.DeepCutAuto
import Derived.Deep.RegionHeld3
import Derived.Test.YtmiekcdkamgknaaGreatDoorR37
import Derived.Test.YtmiekcdkamgknaaGreatDoorR34
namespace Go.Proofs.YtmiekcdkamgknaaGreatDoor
open Go.RowKit Go.Shelf
attribute [local go_sem ↓] Go.wp_at_zero Go.wp_at_succ
structure PlaceL where
 who:Int
 path:Str
 s:SpotL
 dn:NodeL
 nn:NodeL
abbrev pcells (p:PlaceL)(vd vn:Value):Array Value :=
 #[.int .i64 p.who, .string (bs p.path), .int .i64 p.s.dir, .string (bs p.s.name), .int .i64 p.s.ino, .bool p.s.slash, .int .i64 p.dn.kind, .int .i64 p.dn.mode, .int .i64 p.dn.owner, .int .i64 p.dn.links, .int .i64 p.dn.opn, .int .i64 p.dn.up, .string (bs p.dn.data),vd,
  .int .i64 p.nn.kind, .int .i64 p.nn.mode, .int .i64 p.nn.owner, .int .i64 p.nn.links, .int .i64 p.nn.opn, .int .i64 p.nn.up, .string (bs p.nn.data),vn]
end Go.Proofs.YtmiekcdkamgknaaGreatDoor
namespace Go.Proofs.YtmiekcdkamgknaaGreatDoor
open Go.RowKit Go.Shelf
attribute [local go_sem ↓] Go.wp_at_zero Go.wp_at_succ
def TellsE (S:Nat→Addr)(n:Int)(e:Ending)(w w':World):Prop:=∃v,e = .returned v∧ErrIs S n v∧Below w.heap.size w w'
theorem TellsE.of {S:Nat→Addr}{n m:Int}{v:Value}{w w':World}(h:m=n)(hv:ErrIs S n v)(hb:Below w.heap.size w w'):TellsE S m (.returned v) w w':=⟨v,rfl,by rw[h];exact hv,hb⟩
end Go.Proofs.YtmiekcdkamgknaaGreatDoor
namespace Go.Proofs.YtmiekcdkamgknaaGreatDoor
open Go.RowKit Go.Shelf
attribute [local go_sem ↓] Go.wp_at_zero Go.wp_at_succ
structure Ord (l:List NodeL):Prop where
 len:l.length≤10000
 nm : ∀n∈l,n.names.length≤10000
 up : ∀n∈l,Up n.names
theorem Ord.node {l:List NodeL}(h:Ord l)(i:Int):(nodeL l i).names.length≤10000∧Up (nodeL l i).names:=by
 unfold nodeL;split
 · unfold atI
   rcases Nat.lt_or_ge i.toNat l.length with h1 | h1
   · rw[List.getD_eq_getElem?_getD,List.getElem?_eq_getElem h1];exact⟨h.nm _ (List.getElem_mem _),h.up _ (List.getElem_mem _)⟩
   · rw[List.getD_eq_getElem?_getD,List.getElem?_eq_none h1];exact⟨Nat.zero_le _,List.Pairwise.nil⟩
 · exact⟨Nat.zero_le _,List.Pairwise.nil⟩
theorem Ord.set {l:List NodeL}(h:Ord l){n:NodeL}(h1:n.names.length≤10000)(h2:Up n.names)(i:Int):Ord (setL l i n):=by
 unfold setL;split
 · refine⟨by rw[List.length_set];exact h.len,fun m hm=> ?_,fun m hm=> ?_⟩
   · rcases List.mem_or_eq_of_mem_set hm with hm | rfl
     · exact h.nm m hm
     · exact h1
   · rcases List.mem_or_eq_of_mem_set hm with hm | rfl
     · exact h.up m hm
     · exact h2
 · exact h
theorem up_drop {es:List EntL}(h:Up es)(nm:Nm):Up (dropL es nm):=h.sublist List.filter_sublist
theorem Ord.dropped {l:List NodeL}(h:Ord l)(s:SpotL):Ord (droppedL l s) :=
 h.set (Nat.le_trans (drop_len _ _) (h.node _).1) (up_drop (h.node _).2 _) _
theorem Ord.lost {l:List NodeL}(h:Ord l)(s:SpotL):Ord (lostL l s):=by
 have h1:=(h.dropped s).node s.ino;have h2:Ord (setL (droppedL l s) s.ino (lessN (nodeL (droppedL l s) s.ino))):=Ord.set (n:=lessN (nodeL (droppedL l s) s.ino)) (h.dropped s) h1.1 h1.2 _;unfold lostL settleL;split
 · exact Ord.set (n:=zeroN) h2 (Nat.zero_le _) List.Pairwise.nil _
 · exact h2
theorem Dsk.ord {l:List NodeL}(h:Dsk l):Ord l:=by
 refine⟨h.len,fun n hn=>Nat.le_trans (h.sm.2 n hn).2 (by decide),fun n hn=> ?_⟩;obtain⟨k,hk,rfl⟩:=List.mem_iff_getElem.1 hn;rw[←nd_lt hk];exact(Rig.sorted (Rig.of h.rig).1 k).2
set_option maxRecDepth 100000 in
set_option maxHeartbeats 4000000 in
theorem settle_g (X:Nat→Prop)(l:List NodeL)(most room i:Int)(ao:Option Addr)(cap:Nat)(w:World)(hX:Old X w)(hg:GivesX X l (.slice ao l.length cap) w)(hd:Ord l) :
 Calls Tryz.prog 143 #[diskV ao l.length cap most room, .int .i64 i] w fun e w'=>RDiskIs X (settleL l i) most room e w w':=by
 have S0:=zd (St.start (G:= [(l, .slice ao l.length cap)]) (N:= []) hX (one_g hg) no_n);have HD:=zd hd
 have HRET:Hid (∀(W:World) (cs:Array Value) (fr),W.heap[w.heap.size+1]? = some (.cells cs 24 fr)→cs.size=3→∀tmps:Array Value,tmps.getD 4 undef = .pointer (some ⟨w.heap.size+1,0,none⟩)→(results Tryz.f143 tmps).run Tryz.prog W = .ok (.agg cs) W):=zd fun W cs fr h hs tmps ht =>
 results_cell_row (p:=4)  (ty:=24) rfl tmps W (w.heap.size+1) _ cs fr _ ht h Tryz.underlying24 rfl (by rw[hs];kernel_rfl)
 clear hX hg hd;go_enter Tryz.func143,Tryz.ntmps143;go_upto_region 1 with(fail);refine code_fresh2 ?_;intro W1 hb hA0 hA1 hs;have S1:=zd (S0.out.new2 hb hA0 hA1);clear hb hA0 hA1 hs;have h_d:=(S1.out.at 0 rfl);go_wp2_with (first | (refine zl h_d Tryz.underlying24 ?_));refine(get_g _ l most room i _ W1 S1.out.oldX (S1.out.g 0 rfl) HD.out.len HD.out.nm).mono ?_;rintro e W2 ⟨ao1,cp1,rfl,hn1,hb⟩;clear h_d;have S2:=zd ((S1.out.call hb).addN hn1);clear hb hn1;(have HS:Hid (∀b,b=gotB l i→settleL l i=if b=true∧i≠0∧(nodeL l i).links≤0∧(nodeL l i).opn≤0 then setL l i zeroN else l):=zd fun b hb=>by subst hb;rfl);generalize hgb:gotB l i=gb at *;generalize nodeL l i=n at *;have HE:=zd (HS.out gb rfl);clear hgb HS;go_upto_region 2 with(fail);refine code_fresh1 ?_;intro W3 hb hA0 hs;have S3:=zd (S2.out.new1 hb hA0);clear hb hA0 hs;by_cases hc:gb=true∧i≠0∧n.links≤0∧n.opn≤0
 · have HE2:=zd (HE.out.trans (if_pos hc))
   obtain⟨rfl,h1,h2,h3⟩:=hc;(have i1:(i == 0)=false:=by simpa using h1);have i2:decide (0<n.links)=false:=decide_eq_false (by omega);have i3:decide (0<n.opn)=false:=decide_eq_false (by omega);clear h1 h2 h3 HE;obtain⟨-, -, -,n3,n4, -, -, -⟩:=cells8 (S3.out.at 2 rfl);have h_d:=(S3.out.at 0 rfl);go_wp2_with (first | (refine zl h_d Tryz.underlying24 ?_));refine(set_g _ l most room i zeroN _ (.slice none 0 0) W3 S3.out.oldX (S3.out.g 0 rfl) HD.out.len (NodeX.zero _ _) (Nat.zero_le _)).mono ?_;rintro e W4 ⟨ao3,cp3,rfl,hg3,hb⟩;clear n3 n4 h_d;have S4:=zd ((S3.out.call hb).addG hg3);clear hb hg3;have h_r:=(S4.out.at 1 rfl);go_wp2_with (first | (refine zs h_r ?_;intro W5 hb hg hs hn;have S5:=zd (S4.out.set 1 rfl hb hg hs hn);clear hb hg hs hn));refine bodyPost_ret (HRET.out _ _ _ (S5.out.at 1 rfl) rfl _ rfl) rfl ?_;rw[HE2.out];exact⟨_,_,rfl,S5.out.gX 1 rfl,S5.out.bel⟩
 · have HE2:=zd (HE.out.trans (if_neg hc))
   have hT:gb=false∨(gb=true∧((i == 0)=true∨((i == 0)=false∧(decide (0<n.links)=true∨(decide (0<n.links)=false∧decide (0<n.opn)=true))))):=by
    cases gb
    · exact .inl rfl
    · refine .inr ⟨rfl,?_⟩
      by_cases h1:i=0
      · exact .inl (by simpa using h1)
      · refine .inr ⟨by simpa using h1,?_⟩
        by_cases h2:0<n.links
        · exact .inl (decide_eq_true h2)
        · refine .inr ⟨decide_eq_false h2,decide_eq_true ?_⟩
          exact Int.lt_of_not_ge fun h3=>hc ⟨rfl,h1,by omega,h3⟩
   clear hc HE;rcases hT with rfl | ⟨rfl,i1 | ⟨i1,i2 | ⟨i2,i3⟩⟩⟩
   all_goals
    obtain⟨-, -, -,n3,n4, -, -, -⟩:=cells8 (S3.out.at 2 rfl);have h_r:=(S3.out.at 1 rfl);have h_d:=(S3.out.at 0 rfl);go_wp2_with (first | (refine zl h_d Tryz.underlying24 ?_) | (refine zs h_r ?_;intro W4 hb hg hs hn;have S4:=zd (S3.out.set 1 rfl hb hg hs hn);clear hb hg hs hn));refine bodyPost_ret (HRET.out _ _ _ (S4.out.at 1 rfl) rfl _ rfl) rfl ?_;rw[HE2.out];exact⟨_,_,rfl,S4.out.gX 0 rfl,S4.out.bel⟩
end Go.Proofs.YtmiekcdkamgknaaGreatDoor
namespace Go.Proofs.YtmiekcdkamgknaaGreatDoor
open Go.RowKit Go.Shelf
attribute [local go_sem ↓] Go.wp_at_zero Go.wp_at_succ
def PlcIs (X:Nat→Prop)(S:Nat→Addr)(p:PlaceL)(n:Int)(e:Ending)(w w':World):Prop :=
 ∃v aod capd aon capn,e = .returned (.tuple #[.agg (pcells p (.slice aod p.dn.names.length capd) (.slice aon p.nn.names.length capn)),v])∧ErrIs S n v∧NodeX X p.dn (.slice aod p.dn.names.length capd) w'∧NodeX X p.nn (.slice aon p.nn.names.length capn) w'∧Below w.heap.size w w'
theorem PlcIs.of {X:Nat→Prop}{S:Nat→Addr}{p q:PlaceL}{n m:Int}{v:Value}{aod aon:Option Addr}{capd capn:Nat}{w w':World}(hp:q=p)(hn:m=n)(hv:ErrIs S n v)(h1:NodeX X p.dn (.slice aod p.dn.names.length capd) w')(h2:NodeX X p.nn (.slice aon p.nn.names.length capn) w')(hb:Below w.heap.size w w') :
 PlcIs X S q m (.returned (.tuple #[.agg (pcells p (.slice aod p.dn.names.length capd) (.slice aon p.nn.names.length capn)),v])) w w':=by
 subst hp;subst hn;exact⟨v,aod,capd,aon,capn,rfl,hv,h1,h2,hb⟩
end Go.Proofs.YtmiekcdkamgknaaGreatDoor
namespace Go.Proofs.YtmiekcdkamgknaaGreatDoor
open Go.RowKit Go.Shelf
attribute [local go_sem ↓] Go.wp_at_zero Go.wp_at_succ
theorem wpList_load_rowG {P:Program}{ops:Array Oper}{rest:List Oper}{o:Oper}{a:Act}{w:World}{Q:Exit→Act→World→Prop}(hw:Region.wanted o (yielded ops a.tmps)=true)(ty:TypeId)(x:Operand)(ho:o.op = .load ty x)
 (g:Nat) (hx:a.eval x = .pointer (some ⟨g,0,none⟩)) (t:TypeId) (cs:Array Value) (fr:Nat × Nat) (d:TypeDesc) (hg:w.heap[g]? = some (.cells cs t fr))
 (hu:P.underlying ty=some d) (hd:(match d with | .struct _ | .array _ _=>true | _=>false)=true) (hi:(P.info? ty).map (·.size)=some cs.size)
 (h:wpList P ops Q rest (a.put o.dst (.agg cs)) w):wpList P ops Q (o::rest) a w :=
  wpList_step fun _ hK=>by rw[if_pos hw];exact wp_load_row ty x ho g hx t cs fr d hg hu hd hi (hK _ _ h)
end Go.Proofs.YtmiekcdkamgknaaGreatDoor
namespace Go.Proofs.YtmiekcdkamgknaaGreatDoor
open Go.RowKit Go.Shelf
attribute [local go_sem ↓] Go.wp_at_zero Go.wp_at_succ
theorem rangeAt8 {W:World}{b o:Nat}{v0 v1 v2 v3 v4 v5 v6 v7:Value}(h0:W.cell? ⟨b,o,none⟩=some v0)(h1:W.cell? ⟨b,o+1,none⟩=some v1)(h2:W.cell? ⟨b,o+2,none⟩=some v2)(h3:W.cell? ⟨b,o+3,none⟩=some v3)(h4:W.cell? ⟨b,o+4,none⟩=some v4)(h5:W.cell? ⟨b,o+5,none⟩=some v5)(h6:W.cell? ⟨b,o+6,none⟩=some v6)(h7:W.cell? ⟨b,o+7,none⟩=some v7):W.rangeAt b o [v0,v1,v2,v3,v4,v5,v6,v7]:=by
 intro j v hv;rcases j with _ | _ | _ | _ | _ | _ | _ | _ | j
 · obtain rfl:=Option.some.inj hv;exact h0
 · obtain rfl:=Option.some.inj hv;exact h1
 · obtain rfl:=Option.some.inj hv;exact h2
 · obtain rfl:=Option.some.inj hv;exact h3
 · obtain rfl:=Option.some.inj hv;exact h4
 · obtain rfl:=Option.some.inj hv;exact h5
 · obtain rfl:=Option.some.inj hv;exact h6
 · obtain rfl:=Option.some.inj hv;exact h7
 · simp at hv
end Go.Proofs.YtmiekcdkamgknaaGreatDoor
namespace Go.Proofs.YtmiekcdkamgknaaGreatDoor
open Go.RowKit Go.Shelf
attribute [local go_sem ↓] Go.wp_at_zero Go.wp_at_succ
theorem DiskX.range {l:List NodeL}{ao:Option Addr}{cap:Nat}{X:Nat→Prop}{W:World}(h:DiskX l (.slice ao l.length cap) X W)(i:Nat)(hi:i<l.length) : ∃b off aon capn,ao=some ⟨b,off,none⟩∧W.rangeAt b (off+i*8) [.int .i64 (l[i]).kind, .int .i64 (l[i]).mode, .int .i64 (l[i]).owner, .int .i64 (l[i]).links, .int .i64 (l[i]).opn, .int .i64 (l[i]).up, .string (bs (l[i]).data), .slice aon (l[i]).names.length capn]:=by
 obtain⟨ms,rfl,hr,_⟩:=h;(have hi2:i<ms.length:=by rwa [pl_len]at hi);rw[pl_len]at hr;obtain⟨b,off,n,aon,capn,e1,_,e2,_,_,h0,h1,h2,h3,h4,h5,h6,h7⟩:=node_at hr i hi2;rw[e2];exact⟨b,off,aon,capn,e1,rangeAt8 h0 h1 h2 h3 h4 h5 h6 h7⟩
section
variable {k:KernL}
def openedB (k:KernL):Bool:=k.t.ds.all (descGot k) && (List.range k.l.length).all (nodeOpn k)
theorem open_no {i:Nat}(hi:i<k.t.ds.length)(hr:0<(k.t.ds[i]).refs)(hg:gotB k.l (k.t.ds[i]).ino=false):openedB k=false:=by
 unfold openedB;rw[show k.t.ds.all (descGot k)=false from ?_,Bool.false_and];rw[List.all_eq_false];exact⟨_,List.getElem_mem hi,by unfold descGot;rw[decide_eq_true hr,hg];decide⟩
end
theorem nd_in (l:List NodeL)(i:Nat)(h:i<l.length):nd l i=l[i]:=by unfold nd;rw[List.getD_eq_getElem?_getD,List.getElem?_eq_getElem h];rfl
theorem rightK_parts {k:KernL}:rightK k=((rightR k.l k.most k.room && (rightB k.t && (decide (k.t.fs.length=8) && decide (k.ps.length≤8)))) && ((List.range 8).all (procOk k) && openedB k)):=rfl
theorem desc_ino {t:TabL}{b off cd cf:Nat}{af:Option Addr}{X:Nat→Prop}{W:World}(h:TabX t (.slice (some ⟨b,off,none⟩) t.ds.length cd) (.slice af t.fs.length cf) X W){j:Nat}(hj:j<t.ds.length):W.cell? ⟨b,off+j*6,none⟩=some (.int .i64 (t.ds[j]).ino):=by
 obtain⟨b',o',e,d0, -, -, -, -, -⟩:=h.desc j hj;injection e with e;injection e with e1 e2 _;subst e1;subst e2;exact d0
theorem desc_refs {t:TabL}{b off cd cf:Nat}{af:Option Addr}{X:Nat→Prop}{W:World}(h:TabX t (.slice (some ⟨b,off,none⟩) t.ds.length cd) (.slice af t.fs.length cf) X W){j:Nat}(hj:j<t.ds.length):W.cell? ⟨b,off+j*6+4,none⟩=some (.int .i64 (t.ds[j]).refs):=by
 obtain⟨b',o',e, -, -, -, -,d4, -⟩:=h.desc j hj;injection e with e;injection e with e1 e2 _;subst e1;subst e2;exact d4
theorem node_kind {l:List NodeL}{b off cap:Nat}{X:Nat→Prop}{W:World}(h:DiskX l (.slice (some ⟨b,off,none⟩) l.length cap) X W){i:Nat}(hi:i<l.length):W.cell? ⟨b,off+i*8,none⟩=some (.int .i64 (l[i]).kind):=by
 obtain⟨ms,rfl,hr,_⟩:=h;(have hi2:i<ms.length:=by rwa [pl_len]at hi);rw[pl_len]at hr;obtain⟨b',o',n,aon,capn,e,_,e2,_,_,h0, -⟩:=node_at hr i hi2;injection e with e;injection e with e1 e3 _;subst e1;subst e3;rw[e2];exact h0
theorem node_opn {l:List NodeL}{b off cap:Nat}{X:Nat→Prop}{W:World}(h:DiskX l (.slice (some ⟨b,off,none⟩) l.length cap) X W){i:Nat}(hi:i<l.length):W.cell? ⟨b,off+i*8+4,none⟩=some (.int .i64 (l[i]).opn):=by
 obtain⟨ms,rfl,hr,_⟩:=h;(have hi2:i<ms.length:=by rwa [pl_len]at hi);rw[pl_len]at hr;obtain⟨b',o',n,aon,capn,e,_,e2,_,_, -, -, -, -,h4, -⟩:=node_at hr i hi2;injection e with e;injection e with e1 e3 _;subst e1;subst e3;rw[e2];exact h4
end Go.Proofs.YtmiekcdkamgknaaGreatDoor
namespace Go.Proofs.YtmiekcdkamgknaaGreatDoor
open Go.RowKit Go.Shelf
attribute [local go_sem ↓] Go.wp_at_zero Go.wp_at_succ
structure SmallK (k:KernL):Prop where
 most:k.most≤100
 room:k.room≤1000
 nodes:k.l.length≤100
 each : ∀q:Nat,q<k.l.length→(nd k.l q).data.length≤1200∧(nd k.l q).names.length≤100
 ds:k.t.ds.length≤100
 fs:k.t.fs.length≤20
 rows : ∀r∈k.t.fs,r.length≤20
 ps:k.ps.length≤20
def SmallIs (k:KernL)(e:Ending)(w w':World):Prop:=∃b,e = .returned (.bool b)∧(b=true→SmallK k)∧Below w.heap.size w w'
theorem SmallK.node {k:KernL}(h:SmallK k) : ∀n∈k.l,n.data.length≤1200∧n.names.length≤100:=fun n hn=>by
 obtain⟨q,hq,rfl⟩:=List.mem_iff_getElem.1 hn;have:=h.each q hq
 rwa [nd_in _ _ hq]at this
theorem SmallK.disk {k:KernL}(h:SmallK k):Small k.l:=⟨Nat.le_trans h.nodes (by decide),fun n hn=>⟨Nat.le_trans (h.node n hn).1 (by decide),Nat.le_trans (h.node n hn).2 (by decide)⟩⟩
theorem SmallK.tab {k:KernL}(h:SmallK k):SizeT k.t:=⟨Nat.le_trans h.ds (by decide),h.fs,h.rows⟩
theorem SmallK.siz {k:KernL}(h:SmallK k):KrnS 100 k:=⟨h.most,h.room,fun n hn=>(h.node n hn).2,h.ds⟩
theorem node_text {l:List NodeL}{b off cap:Nat}{X:Nat→Prop}{W:World}(h:DiskX l (.slice (some ⟨b,off,none⟩) l.length cap) X W){i:Nat}(hi:i<l.length) : ∃aon capn,W.cell? ⟨b,off+i*8+6,none⟩=some (.string (bs (l[i]).data))∧W.cell? ⟨b,off+i*8+7,none⟩=some (.slice aon (l[i]).names.length capn):=by
 obtain⟨ms,rfl,hr,_⟩:=h;(have hi2:i<ms.length:=by rwa [pl_len]at hi);rw[pl_len]at hr;obtain⟨b',o',n,aon,capn,e,_,e2,_,_, -, -, -, -, -, -,h6,h7⟩:=node_at hr i hi2;injection e with e;injection e with e1 e3 _;subst e1;subst e3;rw[e2];exact⟨aon,capn,h6,h7⟩
set_option maxRecDepth 100000 in
set_option maxHeartbeats 4000000 in
theorem small_c {X:Nat→Prop}(k:KernL)(ao ad af ap:Option Addr)(co cd cf cp:Nat)(w:World)(hD:DiskX k.l (.slice ao k.l.length co) X w)(hT:TabX k.t (.slice ad k.t.ds.length cd) (.slice af k.t.fs.length cf) X w)(hP:PsX k.ps (.slice ap k.ps.length cp) X w) :
 Calls Tryz.prog 10 #[.agg #[.slice ao k.l.length co, .int .i64 k.most, .int .i64 k.room, .slice ad k.t.ds.length cd, .slice af k.t.fs.length cf, .slice ap k.ps.length cp]] w fun e w'=>SmallIs k e w w':=by
 have S0:=zd (Sf.start (w:=w) (X:=fun _=>False) (G:= [DiskX k.l (.slice ao k.l.length co),TabX k.t (.slice ad k.t.ds.length cd) (.slice af k.t.fs.length cf),PsX k.ps (.slice ap k.ps.length cp)]) (fun _ h=>h.elim) (th3 (DiskX.firm _ _) ((DiskX.firm _ _).sub hD fun _ h=>h.elim) (TabX.firm _ _ _) ((TabX.firm _ _ _).sub hT fun _ h=>h.elim) (PsX.firm _ _) ((PsX.firm _ _).sub hP fun _ h=>h.elim)));clear hD hT hP;go_enter Tryz.func10,Tryz.ntmps10;go_upto_region 1 with(fail);refine code_fresh1 ?_;intro W1 hb hA0 hs;have S1:=zd (S0.out.new1 hb hA0);clear hb hA0 hs;go_wp2_with fail;go_loop [3] (fun i=>∃m:Nat,i = .int .i64 m∧m≤k.l.length∧m≤110∧Hid (∀q:Nat,q<m→(nd k.l q).data.length≤1200∧(nd k.l q).names.length≤100)) (fun i=>110-(RowKit.intOf i).toNat)
 case atStart=>exact⟨0,rfl,Nat.zero_le _,Nat.zero_le _,zd (fun q hq=>by omega)⟩
 case round =>
  obtain⟨m,rfl,hm,hm1,HEA⟩:=hrel;by_cases hlt:m<k.l.length
  · have iL1:decide (m<k.l.length)=true:=decide_eq_true (by omega)
    have iL2:decide ((m:Int)<(k.l.length:Int))=true:=decide_eq_true (by omega);by_cases h10:m<110
    · have iM1:decide (m<110)=true:=decide_eq_true (by omega)
      have iM2:decide ((m:Int)<(110:Int))=true:=decide_eq_true (by omega);(have m0:(0:Int)≤(m:Int):=by omega);(have m1:(m:Int)<(k.l.length:Int):=by omega);have wm:IntKind.i64.wrap ((m:Int)+1)=(m:Int)+1:=Go.IntWalk.i64_in _ (by omega);obtain⟨b7,off7,aon0,cpn0,e7, -⟩:=DiskX.range (S1.out.g 0 rfl) m hlt;subst e7;obtain⟨aon,cpn,n6,n7⟩:=node_text (S1.out.g 0 rfl) hlt;obtain⟨y,hy⟩ : ∃y,y=k.l[m]:=⟨_,rfl⟩;rw[←hy]at n6 n7;have HY:Hid (nd k.l m=y):=zd (by rw[hy];exact nd_in _ _ hlt);clear hy;obtain⟨k0, -, -, -, -, -⟩:=cells6 (S1.out.at 0 rfl);by_cases u0:y.data.length≤1200
      · have q1:decide (y.data.length>1200)=false:=decide_eq_false (by omega)
        have q2:decide ((y.data.length:Int)>1200)=false:=decide_eq_false (by omega);have q3:decide (1200<y.data.length)=false:=decide_eq_false (by omega);have q4:decide ((1200:Int)<(y.data.length:Int))=false:=decide_eq_false (by omega);by_cases u1:y.names.length≤100
        · have p1:decide (y.names.length>100)=false:=decide_eq_false (by omega)
          have p2:decide ((y.names.length:Int)>100)=false:=decide_eq_false (by omega);have p3:decide (100<y.names.length)=false:=decide_eq_false (by omega);have p4:decide ((100:Int)<(y.names.length:Int))=false:=decide_eq_false (by omega);have HEn:Hid (∀q:Nat,q<m+1→(nd k.l q).data.length≤1200∧(nd k.l q).names.length≤100):=zd (fun q hq=>by rcases Nat.lt_or_ge q m with h | h;exact HEA.out q h;obtain rfl:q=m:=(by omega);rw[HY.out];exact⟨u0,u1⟩);clear u0 u1;go_wp2_with fail;go_round
          case rel=>exact⟨m+1,by go_num,hlt,h10,HEn⟩
          case measure=>simp[RowKit.intOf];omega
        · have p1:decide (y.names.length>100)=true:=decide_eq_true (by omega)
          have p2:decide ((y.names.length:Int)>100)=true:=decide_eq_true (by omega);have p3:decide (100<y.names.length)=true:=decide_eq_true (by omega);have p4:decide ((100:Int)<(y.names.length:Int))=true:=decide_eq_true (by omega);clear u0 u1;go_wp2_with fail;go_ret;exact⟨false,rfl,fun h=>(by cases h),S1.out.bel⟩
      · have q1:decide (y.data.length>1200)=true:=decide_eq_true (by omega)
        have q2:decide ((y.data.length:Int)>1200)=true:=decide_eq_true (by omega);have q3:decide (1200<y.data.length)=true:=decide_eq_true (by omega);have q4:decide ((1200:Int)<(y.data.length:Int))=true:=decide_eq_true (by omega);clear u0;go_wp2_with fail;go_ret;exact⟨false,rfl,fun h=>(by cases h),S1.out.bel⟩
    · have iM1:decide (m<110)=false:=decide_eq_false (by omega)
      have iM2:decide ((m:Int)<(110:Int))=false:=decide_eq_false (by omega);obtain⟨k0, -, -, -,k4, -⟩:=cells6 (S1.out.at 0 rfl);go_wp2_with fail;clear k0 k4;go_loop [4] (fun i=>∃m:Nat,i = .int .i64 m∧m≤k.t.fs.length∧m≤20∧Hid (∀q:Nat,(hq:q<k.t.fs.length)→q<m→(k.t.fs[q]).length≤20)) (fun i=>20-(RowKit.intOf i).toNat)
      case atStart=>exact⟨0,rfl,Nat.zero_le _,Nat.zero_le _,zd (fun q _ hq=>by omega)⟩
      case round =>
       obtain⟨p,rfl,hp,hp1,HRA⟩:=hrel;by_cases hpt:p<k.t.fs.length
       · have jL1:decide (p<k.t.fs.length)=true:=decide_eq_true (by omega)
         have jL2:decide ((p:Int)<(k.t.fs.length:Int))=true:=decide_eq_true (by omega);by_cases h20:p<20
         · have jM1:decide (p<20)=true:=decide_eq_true (by omega)
           have jM2:decide ((p:Int)<(20:Int))=true:=decide_eq_true (by omega);(have p0:(0:Int)≤(p:Int):=by omega);(have p1:(p:Int)<(k.t.fs.length:Int):=by omega);have wp:IntKind.i64.wrap ((p:Int)+1)=(p:Int)+1:=Go.IntWalk.i64_in _ (by omega);obtain⟨b8,off8,ar,cr,eaf, -,cR, -⟩:=TabX.row (S1.out.g 1 rfl) p hpt;subst eaf;obtain⟨r,hr⟩ : ∃r,r=k.t.fs[p]:=⟨_,rfl⟩;rw[←hr]at cR;have HRR:=zd hr;clear hr;obtain⟨-, -, -, -,k4, -⟩:=cells6 (S1.out.at 0 rfl);by_cases u0:r.length≤20
           · have q1:decide (r.length>20)=false:=decide_eq_false (by omega)
             have q2:decide ((r.length:Int)>20)=false:=decide_eq_false (by omega);have q3:decide (20<r.length)=false:=decide_eq_false (by omega);have q4:decide ((20:Int)<(r.length:Int))=false:=decide_eq_false (by omega);have HRn:Hid (∀q:Nat,(hq:q<k.t.fs.length)→q<p+1→(k.t.fs[q]).length≤20):=zd (fun q hq hq2=>by rcases Nat.lt_or_ge q p with h | h;exact HRA.out q hq h;obtain rfl:q=p:=(by omega);rw[←HRR.out];exact u0);clear u0;go_wp2_with fail;go_round
             case rel=>exact⟨p+1,by go_num,hpt,h20,HRn⟩
             case measure=>simp[RowKit.intOf];omega
           · have q1:decide (r.length>20)=true:=decide_eq_true (by omega)
             have q2:decide ((r.length:Int)>20)=true:=decide_eq_true (by omega);have q3:decide (20<r.length)=true:=decide_eq_true (by omega);have q4:decide ((20:Int)<(r.length:Int))=true:=decide_eq_true (by omega);clear u0;go_wp2_with fail;go_ret;exact⟨false,rfl,fun h=>(by cases h),S1.out.bel⟩
         · have jM1:decide (p<20)=false:=decide_eq_false (by omega)
           have jM2:decide ((p:Int)<(20:Int))=false:=decide_eq_false (by omega);obtain⟨k0,k1,k2,k3,k4,k5⟩:=cells6 (S1.out.at 0 rfl);go_upto_region 11 with(fail);by_cases c0:k.most≤100
           · have t01:decide (k.most≤100)=true:=decide_eq_true (by omega)
             by_cases c1:k.room≤1000
             · have t11:decide (k.room≤1000)=true:=decide_eq_true (by omega)
               by_cases c2:k.l.length≤100
               · exfalso
                 omega
               · have t21:decide (k.l.length≤100)=false:=decide_eq_false (by omega)
                 have t22:decide ((k.l.length:Int)≤100)=false:=decide_eq_false (by omega);go_wp2_with fail;go_ret;exact⟨false,rfl,fun h=>(by cases h),S1.out.bel⟩
             · have t11:decide (k.room≤1000)=false:=decide_eq_false (by omega)
               go_wp2_with fail;go_ret;exact⟨false,rfl,fun h=>(by cases h),S1.out.bel⟩
           · have t01:decide (k.most≤100)=false:=decide_eq_false (by omega)
             go_wp2_with fail;go_ret;exact⟨false,rfl,fun h=>(by cases h),S1.out.bel⟩
       · have jL1:decide (p<k.t.fs.length)=false:=decide_eq_false (by omega)
         have jL2:decide ((p:Int)<(k.t.fs.length:Int))=false:=decide_eq_false (by omega);obtain⟨k0,k1,k2,k3,k4,k5⟩:=cells6 (S1.out.at 0 rfl);go_upto_region 11 with(fail);by_cases c0:k.most≤100
         · have t01:decide (k.most≤100)=true:=decide_eq_true (by omega)
           by_cases c1:k.room≤1000
           · have t11:decide (k.room≤1000)=true:=decide_eq_true (by omega)
             by_cases c2:k.l.length≤100
             · exfalso
               omega
             · have t21:decide (k.l.length≤100)=false:=decide_eq_false (by omega)
               have t22:decide ((k.l.length:Int)≤100)=false:=decide_eq_false (by omega);go_wp2_with fail;go_ret;exact⟨false,rfl,fun h=>(by cases h),S1.out.bel⟩
           · have t11:decide (k.room≤1000)=false:=decide_eq_false (by omega)
             go_wp2_with fail;go_ret;exact⟨false,rfl,fun h=>(by cases h),S1.out.bel⟩
         · have t01:decide (k.most≤100)=false:=decide_eq_false (by omega)
           go_wp2_with fail;go_ret;exact⟨false,rfl,fun h=>(by cases h),S1.out.bel⟩
  · have iL1:decide (m<k.l.length)=false:=decide_eq_false (by omega)
    have iL2:decide ((m:Int)<(k.l.length:Int))=false:=decide_eq_false (by omega);obtain⟨k0, -, -, -,k4, -⟩:=cells6 (S1.out.at 0 rfl);go_wp2_with fail;clear k0 k4;go_loop [4] (fun i=>∃m:Nat,i = .int .i64 m∧m≤k.t.fs.length∧m≤20∧Hid (∀q:Nat,(hq:q<k.t.fs.length)→q<m→(k.t.fs[q]).length≤20)) (fun i=>20-(RowKit.intOf i).toNat)
    case atStart=>exact⟨0,rfl,Nat.zero_le _,Nat.zero_le _,zd (fun q _ hq=>by omega)⟩
    case round =>
     obtain⟨p,rfl,hp,hp1,HRA⟩:=hrel;by_cases hpt:p<k.t.fs.length
     · have jL1:decide (p<k.t.fs.length)=true:=decide_eq_true (by omega)
       have jL2:decide ((p:Int)<(k.t.fs.length:Int))=true:=decide_eq_true (by omega);by_cases h20:p<20
       · have jM1:decide (p<20)=true:=decide_eq_true (by omega)
         have jM2:decide ((p:Int)<(20:Int))=true:=decide_eq_true (by omega);(have p0:(0:Int)≤(p:Int):=by omega);(have p1:(p:Int)<(k.t.fs.length:Int):=by omega);have wp:IntKind.i64.wrap ((p:Int)+1)=(p:Int)+1:=Go.IntWalk.i64_in _ (by omega);obtain⟨b8,off8,ar,cr,eaf, -,cR, -⟩:=TabX.row (S1.out.g 1 rfl) p hpt;subst eaf;obtain⟨r,hr⟩ : ∃r,r=k.t.fs[p]:=⟨_,rfl⟩;rw[←hr]at cR;have HRR:=zd hr;clear hr;obtain⟨-, -, -, -,k4, -⟩:=cells6 (S1.out.at 0 rfl);by_cases u0:r.length≤20
         · have q1:decide (r.length>20)=false:=decide_eq_false (by omega)
           have q2:decide ((r.length:Int)>20)=false:=decide_eq_false (by omega);have q3:decide (20<r.length)=false:=decide_eq_false (by omega);have q4:decide ((20:Int)<(r.length:Int))=false:=decide_eq_false (by omega);have HRn:Hid (∀q:Nat,(hq:q<k.t.fs.length)→q<p+1→(k.t.fs[q]).length≤20):=zd (fun q hq hq2=>by rcases Nat.lt_or_ge q p with h | h;exact HRA.out q hq h;obtain rfl:q=p:=(by omega);rw[←HRR.out];exact u0);clear u0;go_wp2_with fail;go_round
           case rel=>exact⟨p+1,by go_num,hpt,h20,HRn⟩
           case measure=>simp[RowKit.intOf];omega
         · have q1:decide (r.length>20)=true:=decide_eq_true (by omega)
           have q2:decide ((r.length:Int)>20)=true:=decide_eq_true (by omega);have q3:decide (20<r.length)=true:=decide_eq_true (by omega);have q4:decide ((20:Int)<(r.length:Int))=true:=decide_eq_true (by omega);clear u0;go_wp2_with fail;go_ret;exact⟨false,rfl,fun h=>(by cases h),S1.out.bel⟩
       · have jM1:decide (p<20)=false:=decide_eq_false (by omega)
         have jM2:decide ((p:Int)<(20:Int))=false:=decide_eq_false (by omega);obtain⟨k0,k1,k2,k3,k4,k5⟩:=cells6 (S1.out.at 0 rfl);go_upto_region 11 with(fail);by_cases c0:k.most≤100
         · have t01:decide (k.most≤100)=true:=decide_eq_true (by omega)
           by_cases c1:k.room≤1000
           · have t11:decide (k.room≤1000)=true:=decide_eq_true (by omega)
             by_cases c2:k.l.length≤100
             · have t21:decide (k.l.length≤100)=true:=decide_eq_true (by omega)
               have t22:decide ((k.l.length:Int)≤100)=true:=decide_eq_true (by omega);by_cases c3:k.t.ds.length≤100
               · have t31:decide (k.t.ds.length≤100)=true:=decide_eq_true (by omega)
                 have t32:decide ((k.t.ds.length:Int)≤100)=true:=decide_eq_true (by omega);by_cases c4:k.t.fs.length≤20
                 · exfalso
                   omega
                 · have t41:decide (k.t.fs.length≤20)=false:=decide_eq_false (by omega)
                   have t42:decide ((k.t.fs.length:Int)≤20)=false:=decide_eq_false (by omega);go_wp2_with fail;go_ret;exact⟨false,rfl,fun h=>(by cases h),S1.out.bel⟩
               · have t31:decide (k.t.ds.length≤100)=false:=decide_eq_false (by omega)
                 have t32:decide ((k.t.ds.length:Int)≤100)=false:=decide_eq_false (by omega);go_wp2_with fail;go_ret;exact⟨false,rfl,fun h=>(by cases h),S1.out.bel⟩
             · have t21:decide (k.l.length≤100)=false:=decide_eq_false (by omega)
               have t22:decide ((k.l.length:Int)≤100)=false:=decide_eq_false (by omega);go_wp2_with fail;go_ret;exact⟨false,rfl,fun h=>(by cases h),S1.out.bel⟩
           · have t11:decide (k.room≤1000)=false:=decide_eq_false (by omega)
             go_wp2_with fail;go_ret;exact⟨false,rfl,fun h=>(by cases h),S1.out.bel⟩
         · have t01:decide (k.most≤100)=false:=decide_eq_false (by omega)
           go_wp2_with fail;go_ret;exact⟨false,rfl,fun h=>(by cases h),S1.out.bel⟩
     · have jL1:decide (p<k.t.fs.length)=false:=decide_eq_false (by omega)
       have jL2:decide ((p:Int)<(k.t.fs.length:Int))=false:=decide_eq_false (by omega);obtain⟨k0,k1,k2,k3,k4,k5⟩:=cells6 (S1.out.at 0 rfl);go_upto_region 11 with(fail);by_cases c0:k.most≤100
       · have t01:decide (k.most≤100)=true:=decide_eq_true (by omega)
         by_cases c1:k.room≤1000
         · have t11:decide (k.room≤1000)=true:=decide_eq_true (by omega)
           by_cases c2:k.l.length≤100
           · have t21:decide (k.l.length≤100)=true:=decide_eq_true (by omega)
             have t22:decide ((k.l.length:Int)≤100)=true:=decide_eq_true (by omega);by_cases c3:k.t.ds.length≤100
             · have t31:decide (k.t.ds.length≤100)=true:=decide_eq_true (by omega)
               have t32:decide ((k.t.ds.length:Int)≤100)=true:=decide_eq_true (by omega);by_cases c4:k.t.fs.length≤20
               · have t41:decide (k.t.fs.length≤20)=true:=decide_eq_true (by omega)
                 have t42:decide ((k.t.fs.length:Int)≤20)=true:=decide_eq_true (by omega);by_cases c5:k.ps.length≤20
                 · have t51:decide (k.ps.length≤20)=true:=decide_eq_true (by omega)
                   have t52:decide ((k.ps.length:Int)≤20)=true:=decide_eq_true (by omega);go_wp2_with fail;go_ret;exact⟨true,rfl,fun _=>⟨c0,c1,c2,fun q hq=>HEA.out q (by omega),c3,c4,fun r hr=>(by obtain⟨q,hq,rfl⟩:=List.mem_iff_getElem.1 hr;exact HRA.out q hq (by omega)),c5⟩,S1.out.bel⟩
                 · have t51:decide (k.ps.length≤20)=false:=decide_eq_false (by omega)
                   have t52:decide ((k.ps.length:Int)≤20)=false:=decide_eq_false (by omega);go_wp2_with fail;go_ret;exact⟨false,rfl,fun h=>(by cases h),S1.out.bel⟩
               · exfalso
                 omega
             · have t31:decide (k.t.ds.length≤100)=false:=decide_eq_false (by omega)
               have t32:decide ((k.t.ds.length:Int)≤100)=false:=decide_eq_false (by omega);go_wp2_with fail;go_ret;exact⟨false,rfl,fun h=>(by cases h),S1.out.bel⟩
           · have t21:decide (k.l.length≤100)=false:=decide_eq_false (by omega)
             have t22:decide ((k.l.length:Int)≤100)=false:=decide_eq_false (by omega);go_wp2_with fail;go_ret;exact⟨false,rfl,fun h=>(by cases h),S1.out.bel⟩
         · have t11:decide (k.room≤1000)=false:=decide_eq_false (by omega)
           go_wp2_with fail;go_ret;exact⟨false,rfl,fun h=>(by cases h),S1.out.bel⟩
       · have t01:decide (k.most≤100)=false:=decide_eq_false (by omega)
         go_wp2_with fail;go_ret;exact⟨false,rfl,fun h=>(by cases h),S1.out.bel⟩
end Go.Proofs.YtmiekcdkamgknaaGreatDoor
