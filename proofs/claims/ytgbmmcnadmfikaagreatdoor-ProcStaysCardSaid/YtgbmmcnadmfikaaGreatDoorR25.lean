import Derived.Test.YtgbmmcnadmfikaaGreatDoorR24
import Derived.Test.YtgbmmcnadmfikaaGreatDoorR13
import Derived.Test.YtgbmmcnadmfikaaGreatDoorR17
import Derived.Test.YtgbmmcnadmfikaaGreatDoorR18
import Derived.Test.YtgbmmcnadmfikaaGreatDoorR11
import Derived.Test.YtgbmmcnadmfikaaGreatDoorR12
import Derived.Test.YtgbmmcnadmfikaaGreatDoorR16
import Derived.Deep.DeepCutAuto
import Derived.Deep.RegionHeld3
import Derived.Test.YtgbmmcnadmfikaaGreatDoorR21
import Derived.Test.YtgbmmcnadmfikaaGreatDoorR23
namespace Go.Proofs.YtgbmmcnadmfikaaGreatDoor
open Go.RowKit Go.Shelf
abbrev codes:List Nat:= [1,2,3,4,5,6,7,9,11,15]
structure Sent (S:Nat→Addr) (W:World):Prop where
 e1:W.cell? ⟨6,0,none⟩=some (sentV (S 1))
 e2:W.cell? ⟨1,0,none⟩=some (sentV (S 2))
 e3:W.cell? ⟨7,0,none⟩=some (sentV (S 3))
 e4:W.cell? ⟨4,0,none⟩=some (sentV (S 4))
 e5:W.cell? ⟨8,0,none⟩=some (sentV (S 5))
 e6:W.cell? ⟨5,0,none⟩=some (sentV (S 6))
 e7:W.cell? ⟨3,0,none⟩=some (sentV (S 7))
 e9:W.cell? ⟨2,0,none⟩=some (sentV (S 9))
 e11:W.cell? ⟨9,0,none⟩=some (sentV (S 11))
 e15:W.cell? ⟨10,0,none⟩=some (sentV (S 15))
 blk : ∀k∈codes,∃c t,W.heap[(S k).block]? = some (.cells c t (0,0))
 inj : ∀j∈codes,∀k∈codes,j≠k→S j≠S k
 err:W.cell? ⟨0,0,none⟩=some errTypeV
theorem Sent.keep {S:Nat→Addr}{W W':World}(h:Sent S W)(hb:Below W.heap.size W W'):Sent S W' where
 e1:=(hb.cell (p:=⟨6,0,none⟩) (World.block_lt_of_cell? W _ h.e1)).trans h.e1
 e2:=(hb.cell (p:=⟨1,0,none⟩) (World.block_lt_of_cell? W _ h.e2)).trans h.e2
 e3:=(hb.cell (p:=⟨7,0,none⟩) (World.block_lt_of_cell? W _ h.e3)).trans h.e3
 e4:=(hb.cell (p:=⟨4,0,none⟩) (World.block_lt_of_cell? W _ h.e4)).trans h.e4
 e5:=(hb.cell (p:=⟨8,0,none⟩) (World.block_lt_of_cell? W _ h.e5)).trans h.e5
 e6:=(hb.cell (p:=⟨5,0,none⟩) (World.block_lt_of_cell? W _ h.e6)).trans h.e6
 e7:=(hb.cell (p:=⟨3,0,none⟩) (World.block_lt_of_cell? W _ h.e7)).trans h.e7
 e9:=(hb.cell (p:=⟨2,0,none⟩) (World.block_lt_of_cell? W _ h.e9)).trans h.e9
 e11:=(hb.cell (p:=⟨9,0,none⟩) (World.block_lt_of_cell? W _ h.e11)).trans h.e11
 e15:=(hb.cell (p:=⟨10,0,none⟩) (World.block_lt_of_cell? W _ h.e15)).trans h.e15
 blk:=fun k hk=>by
  obtain⟨c,t,hc⟩:=h.blk k hk;exact⟨c,t,(hb.block _ (Array.getElem?_eq_some_iff.1 hc).1).trans hc⟩
 inj:=h.inj
 err:=(hb.cell (p:=⟨0,0,none⟩) (World.block_lt_of_cell? W _ h.err)).trans h.err
def ErrIs (S:Nat→Addr)(n:Int)(v:Value):Prop :=
 (n=0∧v = .nilIface)∨(n≠0∧∃p,v=unmetV p (belowV n))∨(∃k∈codes,n=(k:Int)∧∃p,v=unmetV p (sentV (S k)))
theorem ErrIs.nil {S:Nat→Addr}:ErrIs S 0 .nilIface:= .inl ⟨rfl,rfl⟩
theorem ErrIs.sent {S:Nat→Addr}(k:Nat)(hk:k∈codes)(p:ByteArray):ErrIs S (k:Int) (unmetV p (sentV (S k))):= .inr (.inr ⟨k,hk,rfl,p,rfl⟩)
theorem ErrIs.below {S:Nat→Addr}{n:Int}(h:n≠0)(p:ByteArray):ErrIs S n (unmetV p (belowV n)):= .inr (.inl ⟨h,p,rfl⟩)
theorem code_pos {k:Nat}(h:k∈codes):k≠0:=by rintro rfl;revert h;decide
theorem ErrIs.form {S:Nat→Addr}{n:Int}{v:Value}(h:ErrIs S n v):(n=0∧v = .nilIface)∨(n≠0∧∃p c,v=unmetV p c):=by
 rcases h with h | ⟨h,p,rfl⟩ | ⟨k,hk,rfl,p,rfl⟩
 · exact .inl h
 · exact .inr ⟨h,p,_,rfl⟩
 · exact .inr ⟨by have:=code_pos hk;omega,p,_,rfl⟩
end Go.Proofs.YtgbmmcnadmfikaaGreatDoor
namespace Go.Proofs.YtgbmmcnadmfikaaGreatDoor
open Go.RowKit Go.Shelf
attribute [local go_sem ↓] Go.wp_at_zero Go.wp_at_succ
structure PlaceL where
 who:Int
 path:Str
 s:SpotL
 dn:NodeL
 nn:NodeL
abbrev pcells (p:PlaceL)(vd vn:Value):Array Value :=
 #[.int .i64 p.who, .string (bs p.path), .int .i64 p.s.dir, .string (bs p.s.name), .int .i64 p.s.ino, .bool p.s.slash, .int .i64 p.dn.kind, .int .i64 p.dn.mode, .int .i64 p.dn.owner, .int .i64 p.dn.links, .int .i64 p.dn.opn, .int .i64 p.dn.up, .string (bs p.dn.data),vd,
  .int .i64 p.nn.kind, .int .i64 p.nn.mode, .int .i64 p.nn.owner, .int .i64 p.nn.links, .int .i64 p.nn.opn, .int .i64 p.nn.up, .string (bs p.nn.data),vn]
end Go.Proofs.YtgbmmcnadmfikaaGreatDoor
namespace Go.Proofs.YtgbmmcnadmfikaaGreatDoor
open Go.RowKit Go.Shelf
attribute [local go_sem ↓] Go.wp_at_zero Go.wp_at_succ
def TellsE (S:Nat→Addr)(n:Int)(e:Ending)(w w':World):Prop:=∃v,e = .returned v∧ErrIs S n v∧Below w.heap.size w w'
theorem TellsE.of {S:Nat→Addr}{n m:Int}{v:Value}{w w':World}(h:m=n)(hv:ErrIs S n v)(hb:Below w.heap.size w w'):TellsE S m (.returned v) w w':=⟨v,rfl,by rw[h];exact hv,hb⟩
end Go.Proofs.YtgbmmcnadmfikaaGreatDoor
namespace Go.Proofs.YtgbmmcnadmfikaaGreatDoor
open Go.RowKit Go.Shelf
attribute [local go_sem ↓] Go.wp_at_zero Go.wp_at_succ
structure Ord (l:List NodeL):Prop where
 len:l.length≤10000
 nm : ∀n∈l,n.names.length≤10000
 up : ∀n∈l,Up n.names
theorem Ord.node {l:List NodeL}(h:Ord l)(i:Int):(nodeL l i).names.length≤10000∧Up (nodeL l i).names:=by
 unfold nodeL;split
 · unfold atI
   rcases Nat.lt_or_ge i.toNat l.length with h1 | h1
   · rw[List.getD_eq_getElem?_getD,List.getElem?_eq_getElem h1];exact⟨h.nm _ (List.getElem_mem _),h.up _ (List.getElem_mem _)⟩
   · rw[List.getD_eq_getElem?_getD,List.getElem?_eq_none h1];exact⟨Nat.zero_le _,List.Pairwise.nil⟩
 · exact⟨Nat.zero_le _,List.Pairwise.nil⟩
theorem Ord.set {l:List NodeL}(h:Ord l){n:NodeL}(h1:n.names.length≤10000)(h2:Up n.names)(i:Int):Ord (setL l i n):=by
 unfold setL;split
 · refine⟨by rw[List.length_set];exact h.len,fun m hm=> ?_,fun m hm=> ?_⟩
   · rcases List.mem_or_eq_of_mem_set hm with hm | rfl
     · exact h.nm m hm
     · exact h1
   · rcases List.mem_or_eq_of_mem_set hm with hm | rfl
     · exact h.up m hm
     · exact h2
 · exact h
theorem Dsk.ord {l:List NodeL}(h:Dsk l):Ord l:=by
 refine⟨h.len,fun n hn=>Nat.le_trans (h.sm.2 n hn).2 (by decide),fun n hn=> ?_⟩;obtain⟨k,hk,rfl⟩:=List.mem_iff_getElem.1 hn;rw[←nd_lt hk];exact(Rig.sorted (Rig.of h.rig).1 k).2
set_option maxRecDepth 100000 in
set_option maxHeartbeats 4000000 in
theorem settle_g (X:Nat→Prop)(l:List NodeL)(most room i:Int)(ao:Option Addr)(cap:Nat)(w:World)(hX:Old X w)(hg:GivesX X l (.slice ao l.length cap) w)(hd:Ord l) :
 Calls Tryz.prog 50 #[diskV ao l.length cap most room, .int .i64 i] w fun e w'=>RDiskIs X (settleL l i) most room e w w':=by
 have S0:=Lib.hid (St.start (G:= [(l, .slice ao l.length cap)]) (N:= []) hX (one_g hg) no_n);have HD:=Lib.hid hd
 have HRET:Hid (∀(W:World) (cs:Array Value) (fr),W.heap[w.heap.size+1]? = some (.cells cs 24 fr)→cs.size=3→∀tmps:Array Value,tmps.getD 4 undef = .pointer (some ⟨w.heap.size+1,0,none⟩)→(results Tryz.f50 tmps).run Tryz.prog W = .ok (.agg cs) W):=Lib.hid fun W cs fr h hs tmps ht =>
 results_cell_row (p:=4)  (ty:=24) rfl tmps W (w.heap.size+1) _ cs fr _ ht h Tryz.underlying24 rfl (by rw[hs];kernel_rfl)
 clear hX hg hd;go_enter Tryz.func50,Tryz.ntmps50;go_upto_region 1 with(fail);refine code_fresh2 ?_;intro W1 hb hA0 hA1 hs;have S1:=Lib.hid (S0.out.new2 hb hA0 hA1);clear hb hA0 hA1 hs;have h_d:=(S1.out.at 0 rfl);go_wp2_with (first | (refine wpList_load_row rfl 24 _ rfl _ rfl 24 _ (0,0) _ h_d Tryz.underlying24 rfl (by kernel_rfl) ?_));refine(get_g _ l most room i _ W1 S1.out.oldX (S1.out.g 0 rfl) HD.out.len HD.out.nm).mono ?_;rintro e W2 ⟨ao1,cp1,rfl,hn1,hb⟩;clear h_d;have S2:=Lib.hid ((S1.out.call hb).addN hn1);clear hb hn1;(have HS:Hid (∀b,b=gotB l i→settleL l i=if b=true∧i≠0∧(nodeL l i).links≤0∧(nodeL l i).opn≤0 then setL l i zeroN else l):=Lib.hid fun b hb=>by subst hb;rfl);generalize hgb:gotB l i=gb at *;generalize nodeL l i=n at *;have HE:=Lib.hid (HS.out gb rfl);clear hgb HS;go_upto_region 2 with(fail);refine code_fresh1 ?_;intro W3 hb hA0 hs;have S3:=Lib.hid (S2.out.new1 hb hA0);clear hb hA0 hs;by_cases hc:gb=true∧i≠0∧n.links≤0∧n.opn≤0
 · have HE2:=Lib.hid (HE.out.trans (if_pos hc))
   obtain⟨rfl,h1,h2,h3⟩:=hc;(have i1:(i == 0)=false:=by simpa using h1);have i2:decide (0<n.links)=false:=decide_eq_false (by omega);have i3:decide (0<n.opn)=false:=decide_eq_false (by omega);clear h1 h2 h3 HE;obtain⟨-, -, -,n3,n4, -, -, -⟩:=cells8 (S3.out.at 2 rfl);have h_d:=(S3.out.at 0 rfl);go_wp2_with (first | (refine wpList_load_row rfl 24 _ rfl _ rfl 24 _ (0,0) _ h_d Tryz.underlying24 rfl (by kernel_rfl) ?_));refine(set_g _ l most room i zeroN _ (.slice none 0 0) W3 S3.out.oldX (S3.out.g 0 rfl) HD.out.len (NodeX.zero _ _) (Nat.zero_le _)).mono ?_;rintro e W4 ⟨ao3,cp3,rfl,hg3,hb⟩;clear n3 n4 h_d;have S4:=Lib.hid ((S3.out.call hb).addG hg3);clear hb hg3;have h_r:=(S4.out.at 1 rfl);go_wp2_with (first | (refine wpList_store_row rfl 24 _ _ rfl _ rfl rfl h_r rfl (by kernel_rfl) rfl ?_;intro W5 hb hg hs hn;have S5:=Lib.hid (S4.out.set 1 rfl hb hg hs hn);clear hb hg hs hn));refine bodyPost_ret (HRET.out _ _ _ (S5.out.at 1 rfl) rfl _ rfl) rfl ?_;rw[HE2.out];exact⟨_,_,rfl,S5.out.gX 1 rfl,S5.out.bel⟩
 · have HE2:=Lib.hid (HE.out.trans (if_neg hc))
   have hT:gb=false∨(gb=true∧((i == 0)=true∨((i == 0)=false∧(decide (0<n.links)=true∨(decide (0<n.links)=false∧decide (0<n.opn)=true))))):=by
    cases gb
    · exact .inl rfl
    · refine .inr ⟨rfl,?_⟩
      by_cases h1:i=0
      · exact .inl (by simpa using h1)
      · refine .inr ⟨by simpa using h1,?_⟩
        by_cases h2:0<n.links
        · exact .inl (decide_eq_true h2)
        · refine .inr ⟨decide_eq_false h2,decide_eq_true ?_⟩
          exact Int.lt_of_not_ge fun h3=>hc ⟨rfl,h1,by omega,h3⟩
   clear hc HE;rcases hT with rfl | ⟨rfl,i1 | ⟨i1,i2 | ⟨i2,i3⟩⟩⟩
   all_goals
    obtain⟨-, -, -,n3,n4, -, -, -⟩:=cells8 (S3.out.at 2 rfl);have h_r:=(S3.out.at 1 rfl);have h_d:=(S3.out.at 0 rfl);go_wp2_with (first | (refine wpList_load_row rfl 24 _ rfl _ rfl 24 _ (0,0) _ h_d Tryz.underlying24 rfl (by kernel_rfl) ?_) | (refine wpList_store_row rfl 24 _ _ rfl _ rfl rfl h_r rfl (by kernel_rfl) rfl ?_;intro W4 hb hg hs hn;have S4:=Lib.hid (S3.out.set 1 rfl hb hg hs hn);clear hb hg hs hn));refine bodyPost_ret (HRET.out _ _ _ (S4.out.at 1 rfl) rfl _ rfl) rfl ?_;rw[HE2.out];exact⟨_,_,rfl,S4.out.gX 0 rfl,S4.out.bel⟩
end Go.Proofs.YtgbmmcnadmfikaaGreatDoor
namespace Go.Proofs.YtgbmmcnadmfikaaGreatDoor
open Go.RowKit Go.Shelf
attribute [local go_sem ↓] Go.wp_at_zero Go.wp_at_succ
def PlcIs (X:Nat→Prop)(S:Nat→Addr)(p:PlaceL)(n:Int)(e:Ending)(w w':World):Prop :=
 ∃v aod capd aon capn,e = .returned (.tuple #[.agg (pcells p (.slice aod p.dn.names.length capd) (.slice aon p.nn.names.length capn)),v])∧ErrIs S n v∧NodeX X p.dn (.slice aod p.dn.names.length capd) w'∧NodeX X p.nn (.slice aon p.nn.names.length capn) w'∧Below w.heap.size w w'
theorem PlcIs.of {X:Nat→Prop}{S:Nat→Addr}{p q:PlaceL}{n m:Int}{v:Value}{aod aon:Option Addr}{capd capn:Nat}{w w':World}(hp:q=p)(hn:m=n)(hv:ErrIs S n v)(h1:NodeX X p.dn (.slice aod p.dn.names.length capd) w')(h2:NodeX X p.nn (.slice aon p.nn.names.length capn) w')(hb:Below w.heap.size w w') :
 PlcIs X S q m (.returned (.tuple #[.agg (pcells p (.slice aod p.dn.names.length capd) (.slice aon p.nn.names.length capn)),v])) w w':=by
 subst hp;subst hn;exact⟨v,aod,capd,aon,capn,rfl,hv,h1,h2,hb⟩
end Go.Proofs.YtgbmmcnadmfikaaGreatDoor
namespace Go.Proofs.YtgbmmcnadmfikaaGreatDoor
open Go.RowKit Go.Shelf
attribute [local go_sem ↓] Go.wp_at_zero Go.wp_at_succ
theorem wpList_load_rowG {P:Program}{ops:Array Oper}{rest:List Oper}{o:Oper}{a:Act}{w:World}{Q:Exit→Act→World→Prop}(hw:Region.wanted o (yielded ops a.tmps)=true)(ty:TypeId)(x:Operand)(ho:o.op = .load ty x)
 (g:Nat) (hx:a.eval x = .pointer (some ⟨g,0,none⟩)) (t:TypeId) (cs:Array Value) (fr:Nat × Nat) (d:TypeDesc) (hg:w.heap[g]? = some (.cells cs t fr))
 (hu:P.underlying ty=some d) (hd:(match d with | .struct _ | .array _ _=>true | _=>false)=true) (hi:(P.info? ty).map (·.size)=some cs.size)
 (h:wpList P ops Q rest (a.put o.dst (.agg cs)) w):wpList P ops Q (o::rest) a w :=
  wpList_step fun _ hK=>by rw[if_pos hw];exact wp_load_row ty x ho g hx t cs fr d hg hu hd hi (hK _ _ h)
end Go.Proofs.YtgbmmcnadmfikaaGreatDoor
namespace Go.Proofs.YtgbmmcnadmfikaaGreatDoor
open Go.RowKit Go.Shelf
attribute [local go_sem ↓] Go.wp_at_zero Go.wp_at_succ
theorem rangeAt8 {W:World}{b o:Nat}{v0 v1 v2 v3 v4 v5 v6 v7:Value}(h0:W.cell? ⟨b,o,none⟩=some v0)(h1:W.cell? ⟨b,o+1,none⟩=some v1)(h2:W.cell? ⟨b,o+2,none⟩=some v2)(h3:W.cell? ⟨b,o+3,none⟩=some v3)(h4:W.cell? ⟨b,o+4,none⟩=some v4)(h5:W.cell? ⟨b,o+5,none⟩=some v5)(h6:W.cell? ⟨b,o+6,none⟩=some v6)(h7:W.cell? ⟨b,o+7,none⟩=some v7):W.rangeAt b o [v0,v1,v2,v3,v4,v5,v6,v7]:=by
 intro j v hv;rcases j with _ | _ | _ | _ | _ | _ | _ | _ | j
 · obtain rfl:=Option.some.inj hv;exact h0
 · obtain rfl:=Option.some.inj hv;exact h1
 · obtain rfl:=Option.some.inj hv;exact h2
 · obtain rfl:=Option.some.inj hv;exact h3
 · obtain rfl:=Option.some.inj hv;exact h4
 · obtain rfl:=Option.some.inj hv;exact h5
 · obtain rfl:=Option.some.inj hv;exact h6
 · obtain rfl:=Option.some.inj hv;exact h7
 · simp at hv
end Go.Proofs.YtgbmmcnadmfikaaGreatDoor
namespace Go.Proofs.YtgbmmcnadmfikaaGreatDoor
open Go.RowKit Go.Shelf
attribute [local go_sem ↓] Go.wp_at_zero Go.wp_at_succ
theorem DiskX.range {l:List NodeL}{ao:Option Addr}{cap:Nat}{X:Nat→Prop}{W:World}(h:DiskX l (.slice ao l.length cap) X W)(i:Nat)(hi:i<l.length) : ∃b off aon capn,ao=some ⟨b,off,none⟩∧W.rangeAt b (off+i*8) [.int .i64 (l[i]).kind, .int .i64 (l[i]).mode, .int .i64 (l[i]).owner, .int .i64 (l[i]).links, .int .i64 (l[i]).opn, .int .i64 (l[i]).up, .string (bs (l[i]).data), .slice aon (l[i]).names.length capn]:=by
 obtain⟨ms,rfl,hr,_⟩:=h;(have hi2:i<ms.length:=by rwa [pl_len]at hi);rw[pl_len]at hr;obtain⟨b,off,n,aon,capn,e1,_,e2,_,_,h0,h1,h2,h3,h4,h5,h6,h7⟩:=node_at hr i hi2;rw[e2];exact⟨b,off,aon,capn,e1,rangeAt8 h0 h1 h2 h3 h4 h5 h6 h7⟩
section
variable {k:KernL}
theorem kind_got {l:List NodeL}{i:Int}(h:(nodeL l i).kind≠0):gotB l i=true:=by
 rcases nodeL_cases l i with⟨j,rfl,hk,_⟩ | ⟨_,e⟩
 · exact(got_nd l j).2 hk
 · rw[e]at h;exact absurd rfl h
def openedB (k:KernL):Bool:=k.t.ds.all (descGot k) && (List.range k.l.length).all (nodeOpn k)
theorem open_no {i:Nat}(hi:i<k.t.ds.length)(hr:0<(k.t.ds[i]).refs)(hg:gotB k.l (k.t.ds[i]).ino=false):openedB k=false:=by
 unfold openedB;rw[show k.t.ds.all (descGot k)=false from ?_,Bool.false_and];rw[List.all_eq_false];exact⟨_,List.getElem_mem hi,by unfold descGot;rw[decide_eq_true hr,hg];decide⟩
end
theorem nd_in (l:List NodeL)(i:Nat)(h:i<l.length):nd l i=l[i]:=by unfold nd;rw[List.getD_eq_getElem?_getD,List.getElem?_eq_getElem h];rfl
theorem rightK_parts {k:KernL}:rightK k=((rightR k.l k.most k.room && (rightB k.t && (decide (k.t.fs.length=8) && decide (k.ps.length≤8)))) && ((List.range 8).all (procOk k) && openedB k)):=rfl
theorem desc_ino {t:TabL}{b off cd cf:Nat}{af:Option Addr}{X:Nat→Prop}{W:World}(h:TabX t (.slice (some ⟨b,off,none⟩) t.ds.length cd) (.slice af t.fs.length cf) X W){j:Nat}(hj:j<t.ds.length):W.cell? ⟨b,off+j*6,none⟩=some (.int .i64 (t.ds[j]).ino):=by
 obtain⟨b',o',e,d0, -, -, -, -, -⟩:=h.desc j hj;injection e with e;injection e with e1 e2 _;subst e1;subst e2;exact d0
theorem desc_refs {t:TabL}{b off cd cf:Nat}{af:Option Addr}{X:Nat→Prop}{W:World}(h:TabX t (.slice (some ⟨b,off,none⟩) t.ds.length cd) (.slice af t.fs.length cf) X W){j:Nat}(hj:j<t.ds.length):W.cell? ⟨b,off+j*6+4,none⟩=some (.int .i64 (t.ds[j]).refs):=by
 obtain⟨b',o',e, -, -, -, -,d4, -⟩:=h.desc j hj;injection e with e;injection e with e1 e2 _;subst e1;subst e2;exact d4
theorem node_kind {l:List NodeL}{b off cap:Nat}{X:Nat→Prop}{W:World}(h:DiskX l (.slice (some ⟨b,off,none⟩) l.length cap) X W){i:Nat}(hi:i<l.length):W.cell? ⟨b,off+i*8,none⟩=some (.int .i64 (l[i]).kind):=by
 obtain⟨ms,rfl,hr,_⟩:=h;(have hi2:i<ms.length:=by rwa [pl_len]at hi);rw[pl_len]at hr;obtain⟨b',o',n,aon,capn,e,_,e2,_,_,h0, -⟩:=node_at hr i hi2;injection e with e;injection e with e1 e3 _;subst e1;subst e3;rw[e2];exact h0
theorem node_opn {l:List NodeL}{b off cap:Nat}{X:Nat→Prop}{W:World}(h:DiskX l (.slice (some ⟨b,off,none⟩) l.length cap) X W){i:Nat}(hi:i<l.length):W.cell? ⟨b,off+i*8+4,none⟩=some (.int .i64 (l[i]).opn):=by
 obtain⟨ms,rfl,hr,_⟩:=h;(have hi2:i<ms.length:=by rwa [pl_len]at hi);rw[pl_len]at hr;obtain⟨b',o',n,aon,capn,e,_,e2,_,_, -, -, -, -,h4, -⟩:=node_at hr i hi2;injection e with e;injection e with e1 e3 _;subst e1;subst e3;rw[e2];exact h4
end Go.Proofs.YtgbmmcnadmfikaaGreatDoor
