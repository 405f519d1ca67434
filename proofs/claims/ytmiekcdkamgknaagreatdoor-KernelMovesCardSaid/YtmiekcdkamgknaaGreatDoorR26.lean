import Derived.Test.YtmiekcdkamgknaaGreatDoorR25
import Derived.Test.YtmiekcdkamgknaaGreatDoorR24
import Derived.Deep.AppendLies
import Derived.Deep.RegionHeld3
import Derived.BigRegion
import Derived.Test.YtmiekcdkamgknaaGreatDoorR16
import Derived.Test.YtmiekcdkamgknaaGreatDoorR17
import Derived.Deep.DeepCutAuto
import Derived.Deep.MidRow
import Derived.StillTailTactics
import Derived.Test.YtmiekcdkamgknaaGreatDoorR21
import Derived.Test.YtmiekcdkamgknaaGreatDoorR23
import Derived.Test.YtmiekcdkamgknaaGreatDoorR15
import Derived.Deep.RegionLaw
import Derived.Handy
import Derived.Test.YtmiekcdkamgknaaGreatDoorR11
import Derived.Laws.IdiomCopy
import Derived.Lib.SliceRun
import Derived.Laws.ResultCell
import Derived.Deep.OwnRows
import Derived.Laws.CopyRow
import Derived.Laws.BytesString
import Derived.Lib.ConvBytes
import Derived.Lib.SlBuf
import Derived.Test.YtmiekcdkamgknaaGreatDoorR14
namespace Go.Proofs.YtmiekcdkamgknaaGreatDoor
def Siz (a c:Nat)(l:List NodeL):Prop:=l.length≤a∧∀n∈l,n.data.length≤2000∧n.names.length≤c
theorem Siz.mono {a c a' c':Nat}{l:List NodeL}(h:Siz a c l)(ha:a≤a')(hc:c≤c'):Siz a' c' l :=
 ⟨Nat.le_trans h.1 ha,fun n hn=>⟨(h.2 n hn).1,Nat.le_trans (h.2 n hn).2 hc⟩⟩
theorem Siz.set {a c:Nat}{l:List NodeL}(h:Siz a c l){n:NodeL}(hn:n.data.length≤2000∧n.names.length≤c)(i:Int):Siz a c (setL l i n):=by
 unfold setL;split
 · refine⟨by rw[List.length_set];exact h.1,fun m hm=> ?_⟩
   rcases List.mem_or_eq_of_mem_set hm with hm | rfl
   · exact h.2 m hm
   · exact hn
 · exact h
theorem Siz.node {a c:Nat}{l:List NodeL}(h:Siz a c l)(i:Int):(nodeL l i).data.length≤2000∧(nodeL l i).names.length≤c:=by
 unfold nodeL;split
 · rename_i hg
   obtain⟨k,rfl,hlt,_⟩:=got_nat hg;rw[at_nd,nd_lt hlt];exact h.2 _ (List.getElem_mem hlt)
 · exact⟨Nat.zero_le _,Nat.zero_le _⟩
theorem Siz.named {a c:Nat}{l:List NodeL}(h:Siz a c l)(s:SpotL)(i:Int):Siz a (2*c+1) (namedL l s i):=by
 have h0:Siz a (2*c+1) l:=h.mono (Nat.le_refl _) (by omega);refine h0.set (n:=putN (nodeL l s.dir) s.name i) ⟨(h.node s.dir).1,?_⟩ s.dir;have h1:=put_len (nodeL l s.dir).names (s.name,i);have h2:=(h.node s.dir).2;show(putL (nodeL l s.dir).names (s.name,i)).length≤_;omega
theorem Siz.dropped {a c:Nat}{l:List NodeL}(h:Siz a c l)(s:SpotL):Siz a c (droppedL l s) :=
 h.set (n:=dropN (nodeL l s.dir) s.name) ⟨(h.node s.dir).1,Nat.le_trans (List.length_filter_le _ _) (h.node s.dir).2⟩ s.dir
theorem Siz.settle {a c:Nat}{l:List NodeL}(h:Siz a c l)(i:Int):Siz a c (settleL l i):=by
 unfold settleL;split
 · exact h.set ⟨Nat.zero_le _,Nat.zero_le _⟩ i
 · exact h
theorem Siz.lost {a c:Nat}{l:List NodeL}(h:Siz a c l)(s:SpotL):Siz a c (lostL l s) :=
 ((h.dropped s).set (n:=lessN (nodeL (droppedL l s) s.ino)) ((h.dropped s).node s.ino) s.ino).settle s.ino
theorem Siz.add {a c:Nat}{l:List NodeL}(h:Siz a c l){n:NodeL}(hn:n.data.length≤2000∧n.names.length≤c)(most room:Int):Siz (a+1) c (addL l most room n):=by
 unfold addL;split
 · exact h.mono (Nat.le_succ a) (Nat.le_refl c)
 · split
   · refine⟨by rw[List.length_append,List.length_singleton];have:=h.1;omega,fun m hm=> ?_⟩
     rcases List.mem_append.1 hm with hm | hm
     · exact h.2 m hm
     · obtain rfl:=List.mem_singleton.1 hm
       exact hn
   · refine⟨by rw[List.length_set];have:=h.1;omega,fun m hm=> ?_⟩
     rcases List.mem_or_eq_of_mem_set hm with hm | rfl
     · exact h.2 m hm
     · exact hn
theorem Siz.enter {a c:Nat}{l:List NodeL}(h:Siz a c l){n:NodeL}(hn:n.data.length≤2000∧n.names.length≤c)(most room who:Int)(s:SpotL):Siz (a+1) (2*c+1) (enterL l most room who s n).1:=by
 unfold enterL;split
 · exact h.mono (by omega) (by omega)
 · split
   · exact h.mono (by omega) (by omega)
   · exact(h.add (n:=ownN n who) hn most room).named s _
end Go.Proofs.YtmiekcdkamgknaaGreatDoor
namespace Go.Proofs.YtmiekcdkamgknaaGreatDoor
open Go.RowKit Go.Shelf
attribute [local go_sem ↓] Go.wp_at_zero Go.wp_at_succ
theorem one_g {X:Nat→Prop}{w:World}{l:List NodeL}{v:Value}(hg:GivesX X l v w) : ∀x∈ [(l,v)],GivesX X x.1 x.2 w:=fun x hx=>by rw[List.mem_singleton]at hx;subst hx;exact hg
theorem no_n {X:Nat→Prop}{w:World} : ∀x∈([]:List (NodeL × Value)),NodeX X x.1 x.2 w:=fun _ h=>by cases h
end Go.Proofs.YtmiekcdkamgknaaGreatDoor
namespace Go.Proofs.YtmiekcdkamgknaaGreatDoor
open Go.RowKit Go.Shelf
attribute [local go_sem ↓] Go.wp_at_zero Go.wp_at_succ
structure Sn (w:World) (B:List Bl) (G:List (List NodeL × Value)) (N:List (NodeL × Value)) (W:World):Prop where
 bel:Below w.heap.size w W
 blk : ∀x∈B,W.heap[x.1]? = some (.cells x.2.1 x.2.2 (0,0))
 gv : ∀x∈G,GivesN x.1 x.2 W
 nv : ∀x∈N,RdNm W.heap.size (x.1,x.2) W
theorem gives_no {l:List NodeL}{v:Value}{W:World}(h:GivesN l v W):GivesX (fun _=>False) l v W:=by
 obtain⟨m,a,b⟩:=h;exact⟨m,a,b,fun g hg=>hg.elim⟩
theorem old_no {W:World}:Old (fun _=>False) W:=fun _ h=>h.elim
section
variable {w W W':World} {B:List Bl} {G:List (List NodeL × Value)} {N:List (NodeL × Value)}
theorem Sn.start {l:List NodeL}{v:Value}(hG:GivesN l v w):Sn w [] [(l,v)] [] w:=⟨Below.refl _ _,(fun _ h=>by cases h),(fun x hx=>by rw[List.mem_singleton]at hx;subst hx;exact hG),(fun _ h=>by cases h)⟩
theorem Sn.none:Sn w [] [] [] w:=⟨Below.refl _ _,(fun _ h=>by cases h),(fun _ h=>by cases h),(fun _ h=>by cases h)⟩
theorem Sn.lt (h:Sn w B G N W){x:Bl}(hx:x∈B):x.1<W.heap.size:=(Array.getElem?_eq_some_iff.1 (h.blk x hx)).1
theorem Sn.call (h:Sn w B G N W)(hb:Below W.heap.size W W'):Sn w B G N W' :=
 ⟨ret_tr h.bel hb,fun x hx=>(hb.block _ (h.lt hx)).trans (h.blk x hx),fun x hx=>(h.gv x hx).keep hb,fun x hx=>rdnm_keep (h.nv x hx) hb⟩
theorem Sn.news (h:Sn w B G N W)(hb:Below W.heap.size W W')(C:List Bl)(hC : ∀x∈C,W'.heap[x.1]? = some (.cells x.2.1 x.2.2 (0,0))):Sn w (B++C) G N W' :=
 ⟨ret_tr h.bel hb,fun x hx=>by
  rcases List.mem_append.1 hx with hx | hx
  · exact(hb.block _ (h.lt hx)).trans (h.blk x hx)
  · exact hC x hx,fun x hx=>(h.gv x hx).keep hb,fun x hx=>rdnm_keep (h.nv x hx) hb⟩
theorem Sn.new1 (h:Sn w B G N W)(hb:Below W.heap.size W W'){cs0:Array Value}{t0:TypeId}(h0:W'.heap[W.heap.size]? = some (.cells cs0 t0 (0,0))):Sn w (B++ [(W.heap.size,cs0,t0)]) G N W' :=
 h.news hb _ (fun x hx=>by
  simp only[List.mem_cons,List.not_mem_nil,or_false]at hx;subst hx
  exact h0)
theorem Sn.new2 (h:Sn w B G N W)(hb:Below W.heap.size W W'){cs0 cs1:Array Value}{t0 t1:TypeId}(h0:W'.heap[W.heap.size]? = some (.cells cs0 t0 (0,0)))(h1:W'.heap[W.heap.size+1]? = some (.cells cs1 t1 (0,0))):Sn w (B++ [(W.heap.size,cs0,t0),(W.heap.size+1,cs1,t1)]) G N W' :=
 h.news hb _ (fun x hx=>by
  simp only[List.mem_cons,List.not_mem_nil,or_false]at hx;rcases hx with rfl | rfl
  · exact h0
  · exact h1)
theorem Sn.at (h:Sn w B G N W)(k:Nat){b:Nat}{cs:Array Value}{t:TypeId}(hk:B[k]? = some (b,cs,t)):W.heap[b]? = some (.cells cs t (0,0)):=h.blk _ (List.mem_of_getElem? hk)
theorem Sn.at' (h:Sn w B G N W)(hb:Below W.heap.size W W')(k:Nat){b:Nat}{cs:Array Value}{t:TypeId}(hk:B[k]? = some (b,cs,t)):W'.heap[b]? = some (.cells cs t (0,0)):=(h.call hb).at k hk
theorem Sn.addG (h:Sn w B G N W){l:List NodeL}{v:Value}(hg:GivesN l v W):Sn w B (G++ [(l,v)]) N W :=
 ⟨h.bel,h.blk,fun x hx=>by
  rcases List.mem_append.1 hx with hx | hx
  · exact h.gv x hx
  · rw[List.mem_singleton]at hx;subst hx;exact hg,h.nv⟩
theorem Sn.addN (h:Sn w B G N W){n:NodeL}{v:Value}(hn:RdNm W.heap.size (n,v) W):Sn w B G (N++ [(n,v)]) W :=
 ⟨h.bel,h.blk,h.gv,fun x hx=>by
  rcases List.mem_append.1 hx with hx | hx
  · exact h.nv x hx
  · rw[List.mem_singleton]at hx;subst hx;exact hn⟩
theorem Sn.g (h:Sn w B G N W)(k:Nat){l:List NodeL}{v:Value}(hk:G[k]? = some (l,v)):GivesN l v W:=h.gv _ (List.mem_of_getElem? hk)
theorem Sn.n (h:Sn w B G N W)(k:Nat){n:NodeL}{v:Value}(hk:N[k]? = some (n,v)):RdNm W.heap.size (n,v) W:=h.nv _ (List.mem_of_getElem? hk)
theorem Sn.gx (h:Sn w B G N W)(k:Nat){l:List NodeL}{v:Value}(hk:G[k]? = some (l,v)):GivesX (fun _=>False) l v W:=gives_no (h.g k hk)
theorem Sn.st (h:Sn w B G N W):St (fun _=>False) W [] G [] W:=St.start old_no (fun x hx=>gives_no (h.gv x hx)) (fun _ h=>by cases h)
theorem Sn.of {X:Nat→Prop}{C:List Bl}{G':List (List NodeL × Value)}(h:Sn w B G N W)(t:St X W C G' [] W'):Sn w (B++C) G' N W' :=
 ⟨ret_tr h.bel t.bel,fun x hx=>by
  rcases List.mem_append.1 hx with hx | hx
  · exact(t.bel.block _ (h.lt hx)).trans (h.blk x hx)
  · exact(t.blk x hx).1,fun x hx=>(t.gv x hx).gives,fun x hx=>rdnm_keep (h.nv x hx) t.bel⟩
end
theorem same_g (l:List NodeL)(a b:Int)(hl:l.length≤10000)(hnl : ∀n∈l,n.names.length≤10000)(v v':Value)(W:World)(hg:GivesN l v W)(hg':GivesN l v' W) :
 Calls Tryz.prog 16 #[.agg #[v, .int .i64 a, .int .i64 b], .agg #[v', .int .i64 a, .int .i64 b]] W fun e w'=>e = .returned (.bool true)∧Below W.heap.size W w':=by
 obtain⟨m,rfl,h⟩:=hg;obtain⟨m',h1,h'⟩:=hg';have:=sameD_any v v' m m' a b a b W h h' (by rw[←pl_len];exact hl) hnl (by rw[h1];exact hnl);rw[h1]at this;(have e:sameD (pl m) (pl m) a b a b=true:=by unfold sameD;simp);rw[e]at this;exact this
open Go.Lib in
set_option maxRecDepth 100000 in
set_option maxHeartbeats 4000000 in
theorem its_x (v:Value)(ms:List NodeM)(most room:Int)(w:World)(hv:RdM w.heap.size v ms w)(hl:ms.length≤10000)(hnl : ∀n∈pl ms,n.names.length≤10000) :
 Calls Tryz.prog 18 #[.agg #[v, .int .i64 most, .int .i64 room]] w fun e w'=>∃v',e = .returned (.agg #[v', .int .i64 most, .int .i64 room])∧GivesX (fun g=>g<w.heap.size) (pl ms) v' w'∧Below w.heap.size w w':=by
 obtain⟨ao,cap,rfl,_,_⟩:=rdm_form hv;obtain⟨i0,hi,hz0,hz1,hz2⟩:=info_parts infoRNode;have HV:=zd hv;have HNL:=zd hnl;clear hv hnl;go_enter Tryz.func18,Tryz.ntmps18;go_wp2_with fail;refine fresh3 (P:=fun W=>Code.wp _ _ _ _ W) ?_;intro W0 hb0 hP hR hO hs0;go_loopw [4] (fun i wr=>∃(k:Nat) (vo:Value) (mo:List NodeM),i = .int .i64 k∧k≤ms.length∧Hid (pl mo=(pl ms).take k)∧Hid (OutD (w.heap.size+2) most room mo vo wr)∧Below (w.heap.size+2) W0 wr) (fun i _=>ms.length-(RowKit.intOf i).toNat)
 case atStart=>exact⟨0,_,[],rfl,Nat.zero_le _,zd rfl,zd ⟨hO,World.ownsRow_nil _ _ _ _,fun m hm=>by cases hm⟩,Below.refl _ _⟩
 case round =>
  obtain⟨k,vo,mo,rfl,hk,hmo,hOD,hBr⟩:=hrel;have sB:=hBr.size;have hPr:=(hBr.block _ (by omega)).trans hP;obtain⟨p0,p1,p2⟩:=cells3 hPr;have hBw:Below w.heap.size w wr:=hb0.trans (hBr.mono (by omega));have hbW:=hOD.out.lt;(have hml:mo.length=k:=by rw[←pl_len,hmo.out,List.length_take,pl_len];omega);by_cases hlt:k<ms.length
  · obtain⟨b,off,n,aon,capn,rfl,hb,hn,hmk,hrn,c0,c1,c2,c3,c4,c5,c6,c7⟩:=node_at (HV.out.below hBw) k hlt
    have hnn:n.names.length≤10000:=HNL.out n (by rw[←hn];exact List.getElem_mem _);have ht:Hid ((pl ms).take (k+1)=pl mo++ [n]):=zd (by rw[hmo.out,←hn];exact List.take_succ_eq_append_getElem (by rw[pl_len];exact hlt));(have ne1:vo.ownBlock≠some (w.heap.size+2):=fun e=>by have:=(hOD.out.own.lt _ e).1;omega);have HNR:Hid (RdNm wr.heap.size (n, .slice aon n.names.length capn) wr.drew):=zd (Rd.mono (show Rd w.heap.size 2 _ _ _ wr.drew from hrn) hBw.size);(have cb1:wr.cell? ⟨w.heap.size+2,0,none⟩=some vo:=by rw[Lib.cell_of_heap hOD.out.blk];rfl);have hod:OutD (w.heap.size+2) most room mo vo wr.drew:=hOD.out.below ((Below.refl _ _).drew);have HODD:=zd hod;clear hP hR hO hPr hn hmk hrn hod;go_wp2_with fail
    go_region_law
     (first
       | (go_simp;go_at_call 34;with_reducible refine(node_any n (.slice aon n.names.length capn) _ HNR.out hnn).mono ?_;rintro e w1 ⟨vn,rfl,hownN,hbN⟩;have hD1:=HODD.out.below hbN;have hlt1:=hD1.lt;have hownD:=hD1.own;have oneN : ∀u∈ncells (n,vn),u.oneCell'=true:=ncells_one hownN;have hownN':=own_mono hownN hbW;have belowN:=drew_below hbN (Nat.le_of_lt hbW);have hbD:w.heap.size+2+1≤(w1.alloc (.cells #[.int .i64 n.kind, .int .i64 n.mode, .int .i64 n.owner, .int .i64 n.links, .int .i64 n.opn, .int .i64 n.up, .string (bs n.data),vn] 85)).heap.size:=(by have:=hD1.lt;simp;omega);have fc1:w1.cell? ⟨w.heap.size+2,0,none⟩=some vo:=hD1.c0;have fcD:=hD1.ca;have ffD:=hD1.fa)
       | (refine step_append_lies _ (by rfl) _ _ _ (by rfl) (w.heap.size+2+1) 85 i0 _ 8 88 Tryz.underlying46 hi hz0 hz1 hz2 rfl (by omega) vo mo.length (cellsN mo) (by rfl) (hownD.alloc _)
           ⟨w1.heap.size,0,none⟩ 1 1 (ncells (n,vn)) (by rfl) (by rfl) (World.news_of_block (cs:= #[.int .i64 n.kind, .int .i64 n.mode, .int .i64 n.owner, .int .i64 n.links, .int .i64 n.opn, .int .i64 n.up, .string (bs n.data),vn]) (t:=85) (fr:=(0,0)) (heap_alloc_new w1 _)) oneN
           (by omega) (by unfold maxLen;omega) (by omega) hbD (w1.heap.size+1) (by simp) ?_;intro gg cap w2 hown2 hgrow hat hlt2;have ff2:w2.frozen? ⟨w.heap.size+2,0,none⟩=false:=(hgrow.frozen_far ⟨w.heap.size+2,0,none⟩ (by simp;omega) (Ne.symm ne1)).trans (ffD _);have fc2:w2.cell? ⟨w.heap.size+2,0,none⟩=some vo:=(hgrow.cell_far ⟨w.heap.size+2,0,none⟩ (by simp;omega) (Ne.symm ne1)).trans (fcD _)))
    all_goals
     have hON':=zd (hD1.put (n,vn) hownN' _ hgrow hown2);have hB4:Below (w.heap.size+2) W0 w2:=hBr.trans (belowN.trans (((Below.refl (w.heap.size+2) w1).alloc (Nat.le_of_lt hlt1) _).grown hgrow (by simp;omega) (fun g hg=>Nat.le_trans (Nat.le_succ _) (hownD.lt g hg).1)));clear ff2 fc2 hgrow hat hown2 fc1 fcD ffD;go_wp2_with fail;go_roundw
     case rel=>exact⟨k+1,_,mo++ [(n,vn)],by go_num,hlt,zd (by rw[ht.out];simp[pl]),hml▸hON',hB4.setCell (p:=⟨w.heap.size+2,0,none⟩) (Nat.le_refl _) _⟩
     case measure=>simp[RowKit.intOf];omega
  · have hke:k=ms.length:=by omega
    have HT:Hid (pl mo=pl ms):=zd (by rw[hmo.out,hke,←pl_len,List.take_length]);(have hI2:decide (k<ms.length)=false:=by simp;omega);have hRr:=(hBr.block _ (by omega)).trans hR;obtain⟨r0,r1,r2⟩:=cells3 hRr;(have rf:=fun j=>Lib.frozen_of_heap hRr j);obtain⟨o0,o1,o2⟩:=cells3 hOD.out.blk;obtain⟨aov,capv,rfl⟩:=own_form hOD.out.own;clear hke hlt;go_wp2_with fail;refine sets3 (P:=fun W=>bodyPost _ _ _ _ _ W) hRr ?_;intro W3 hb3 hg3 hs3 hR3;have hown3:RdM W3.heap.size (.slice aov mo.length capv) mo W3:=⟨Rd.own (ownsRow_other hOD.out.own fun g hg=>hg3 g (by omega)) (Nat.le_refl _),fun m hm=>Rd.own (ownsRow_other (hOD.out.nms m hm) fun g hg=>hg3 g (by omega)) (Nat.le_refl _)⟩;have hB3:Below w.heap.size w W3:=hBw.trans (hb3.mono (by omega));(have hav : ∀g,g<w.heap.size→AvoidM g (.slice aov mo.length capv) mo:=fun g hg=>⟨own_far hOD.out.own (by omega),fun m hm=>own_far (hOD.out.nms m hm) (by omega)⟩);rw[hml]at hown3 hav;clear r0 r1 r2 o0 o1 o2 rf;(try simp only[Exit.inBlock,Exit.then]);refine bodyPost_ret (results_cell_row (p:=2) (ty:=48) rfl _ W3 (w.heap.size+1) _ _ _ _ rfl hR3 Tryz.underlying48 rfl (by kernel_rfl)) rfl ?_;exact⟨_,rfl,⟨mo,HT.out,hown3,hav⟩,hB3⟩
theorem its_y (X:Nat→Prop)(l:List NodeL)(a b:Int)(hl:l.length≤10000)(hnl : ∀n∈l,n.names.length≤10000)(v:Value)(W:World)(hX:Old X W)(hg:GivesN l v W) :
 Calls Tryz.prog 18 #[.agg #[v, .int .i64 a, .int .i64 b]] W fun e w'=>∃ao cap,e = .returned (diskV ao l.length cap a b)∧GivesX X l (.slice ao l.length cap) w'∧Below W.heap.size W w':=by
 obtain⟨m,rfl,h⟩:=hg;refine(its_x v m a b W h (by rw[←pl_len];exact hl) hnl).mono ?_;rintro e w' ⟨v',rfl,h1,h2⟩;(have h3:=h1.sub (Y:=X) fun g hg=>hX g hg);obtain⟨ao,cap,rfl⟩:=gives_form h3;exact⟨ao,cap,rfl,h3,h2⟩
end Go.Proofs.YtmiekcdkamgknaaGreatDoor
namespace Go.Proofs.YtmiekcdkamgknaaGreatDoor
open Go.RowKit Go.Shelf
abbrev Thing:=(Nat→Prop)→World→Prop
structure Firm (P:Thing):Prop where
 add : ∀ {X Y:Nat→Prop} {W W':World},P X W→Below W.heap.size W W'→(∀g,Y g→X g∨W.heap.size≤g)→P Y W'
 other : ∀ {X:Nat→Prop} {b:Nat} {W W':World},P X W→X b→W'.heap.size=W.heap.size→(∀g,g≠b→W'.heap[g]? = W.heap[g]?)→P X W'
section
variable {P Q:Thing} {X Y:Nat→Prop} {W W':World}
theorem Firm.keep (f:Firm P)(h:P X W)(hb:Below W.heap.size W W'):P X W':=f.add h hb fun _ hg=> .inl hg
theorem Firm.sub (f:Firm P)(h:P X W)(hs : ∀g,Y g→X g):P Y W:=f.add h (Below.refl _ _) fun g hg=> .inl (hs g hg)
theorem Firm.and (f:Firm P)(g:Firm Q):Firm (fun X W=>P X W∧Q X W):=⟨fun h hb hY=>⟨f.add h.1 hb hY,g.add h.2 hb hY⟩,fun h hX hs hg=>⟨f.other h.1 hX hs hg,g.other h.2 hX hs hg⟩⟩
theorem Firm.ex {α:Type}{P:α→Thing}(f : ∀a,Firm (P a)):Firm (fun X W=>∃a,P a X W):=⟨fun h hb hY=>h.imp fun a h=>(f a).add h hb hY,fun h hX hs hg=>h.imp fun a h=>(f a).other h hX hs hg⟩
theorem Firm.all {α:Type}{P:α→Thing}{S:α→Prop}(f : ∀a,Firm (P a)):Firm (fun X W=>∀a,S a→P a X W):=⟨fun h hb hY a ha=>(f a).add (h a ha) hb hY,fun h hX hs hg a ha=>(f a).other (h a ha) hX hs hg⟩
theorem Firm.pure (p:Prop):Firm (fun _ _=>p):=⟨fun h _ _=>h,fun h _ _ _=>h⟩
end
def RdX (size:Nat)(v:Value)(n:Nat)(xs:List Value):Thing:=fun X W=>Rd W.heap.size size v n xs W∧∀g,X g→Avoid g v
theorem RdX.firm (size:Nat)(v:Value)(n:Nat)(xs:List Value):Firm (RdX size v n xs) :=
 ⟨fun h hb hY=>⟨rd_keep h.1 hb,fun g hg=>(hY g hg).elim (h.2 g) fun h1=>rd_far h.1 h1⟩,
  fun {X b W W'} h hX hs hg=>⟨by rw[hs];exact rd_other h.1 (h.2 b hX) hg,h.2⟩⟩
theorem RdX.none0 (size:Nat)(X:Nat→Prop)(W:World):RdX size (.slice none 0 0) 0 [] X W:=⟨Rd.none0 _ _ _,fun g _ a n c e _=>by cases e⟩
theorem RdX.form {size n:Nat}{v:Value}{xs:List Value}{X:Nat→Prop}{W:World}(h:RdX size v n xs X W) : ∃ao cap,v = .slice ao n cap:=by
 obtain⟨ao,cap,e,_,_⟩:=Rd.form h.1;exact⟨ao,cap,e⟩
theorem RdX.own {base size n:Nat}{e:TypeId}{v:Value}{xs:List Value}{X:Nat→Prop}{W:World}(h:W.ownsRow base e size v n xs)(hX : ∀g,X g→g<base):RdX size v n xs X W :=
 ⟨Rd.own h (Nat.le_refl _),fun g hg=>own_far h (hX g hg)⟩
theorem RdX.ofNo {size n:Nat}{v:Value}{xs:List Value}{W:World}(h:Rd W.heap.size size v n xs W):RdX size v n xs (fun _=>False) W:=⟨h,fun _ hg=>hg.elim⟩
structure Sf (X:Nat→Prop) (w:World) (B:List Bl) (G:List Thing) (W:World):Prop where
 bel:Below w.heap.size w W
 old:Old X w
 blk : ∀x∈B,W.heap[x.1]? = some (.cells x.2.1 x.2.2 (0,0))∧w.heap.size≤x.1
 nd:(B.map (·.1)).Nodup
 gv : ∀P∈G,Firm P∧P (Xo X (B.map (·.1))) W
section
variable {X:Nat→Prop} {w W W':World} {B:List Bl} {G:List Thing}
theorem Sf.lt (h:Sf X w B G W){x:Bl}(hx:x∈B):x.1<W.heap.size:=(Array.getElem?_eq_some_iff.1 (h.blk x hx).1).1
theorem Sf.start (hX:Old X w)(hG : ∀P∈G,Firm P∧P X w):Sf X w [] G w :=
 ⟨Below.refl _ _,hX,(fun _ h=>by cases h),List.nodup_nil,fun P hP=>⟨(hG P hP).1,(hG P hP).1.sub (hG P hP).2 fun g hg=>hg.elim id (fun h=>by cases h)⟩⟩
theorem Sf.call (h:Sf X w B G W)(hb:Below W.heap.size W W'):Sf X w B G W' :=
 ⟨ret_tr h.bel hb,h.old,fun x hx=>⟨(hb.block _ (h.lt hx)).trans (h.blk x hx).1,(h.blk x hx).2⟩,h.nd,fun P hP=>⟨(h.gv P hP).1,(h.gv P hP).1.keep (h.gv P hP).2 hb⟩⟩
theorem Sf.oldX (h:Sf X w B G W):Old (Xo X (B.map (·.1))) W:=fun g hg=>by
 rcases hg with hg | hg
 · exact Nat.lt_of_lt_of_le (h.old g hg) h.bel.size
 · obtain⟨x,hx,rfl⟩:=List.mem_map.1 hg
   exact h.lt hx
theorem Sf.news (h:Sf X w B G W)(hb:Below W.heap.size W W')(C:List Bl)(hC : ∀x∈C,W'.heap[x.1]? = some (.cells x.2.1 x.2.2 (0,0))∧W.heap.size≤x.1)(hn:(C.map (·.1)).Nodup):Sf X w (B++C) G W':=by
 have hY : ∀g,Xo X ((B++C).map (·.1)) g→Xo X (B.map (·.1)) g∨W.heap.size≤g:=fun g hg=>by
  rcases hg with hg | hg
  · exact .inl (.inl hg)
  · rw[List.map_append,List.mem_append]at hg
    rcases hg with hg | hg
    · exact .inl (.inr hg)
    · obtain⟨x,hx,rfl⟩:=List.mem_map.1 hg
      exact .inr (hC x hx).2
 refine⟨ret_tr h.bel hb,h.old,fun x hx=> ?_,?_,fun P hP=>⟨(h.gv P hP).1,(h.gv P hP).1.add (h.gv P hP).2 hb hY⟩⟩
 · rcases List.mem_append.1 hx with hx | hx
   · exact⟨(hb.block _ (h.lt hx)).trans (h.blk x hx).1,(h.blk x hx).2⟩
   · exact⟨(hC x hx).1,Nat.le_trans h.bel.size (hC x hx).2⟩
 · rw[List.map_append,List.nodup_append]
   refine⟨h.nd,hn,fun a ha b hb2 e=> ?_⟩;obtain⟨x,hx,rfl⟩:=List.mem_map.1 ha;obtain⟨y,hy,rfl⟩:=List.mem_map.1 hb2;have:=h.lt hx;have:=(hC y hy).2;omega
theorem Sf.new1 (h:Sf X w B G W)(hb:Below W.heap.size W W'){cs0:Array Value}{t0:TypeId}(h0:W'.heap[W.heap.size]? = some (.cells cs0 t0 (0,0))):Sf X w (B++ [(W.heap.size,cs0,t0)]) G W' :=
 h.news hb _ (fun x hx=>by
  simp only[List.mem_cons,List.not_mem_nil,or_false]at hx;rcases hx with rfl
  · exact⟨h0,Nat.le_refl _⟩) (by simp)
theorem Sf.new2 (h:Sf X w B G W)(hb:Below W.heap.size W W'){cs0 cs1:Array Value}{t0 t1:TypeId}(h0:W'.heap[W.heap.size]? = some (.cells cs0 t0 (0,0)))(h1:W'.heap[W.heap.size+1]? = some (.cells cs1 t1 (0,0))):Sf X w (B++ [(W.heap.size,cs0,t0),(W.heap.size+1,cs1,t1)]) G W' :=
 h.news hb _ (fun x hx=>by
  simp only[List.mem_cons,List.not_mem_nil,or_false]at hx;rcases hx with rfl | rfl
  · exact⟨h0,Nat.le_refl _⟩
  · exact⟨h1,Nat.le_add_right _ _⟩) (by simp)
theorem Sf.new4 (h:Sf X w B G W)(hb:Below W.heap.size W W'){cs0 cs1 cs2 cs3:Array Value}{t0 t1 t2 t3:TypeId}(h0:W'.heap[W.heap.size]? = some (.cells cs0 t0 (0,0)))(h1:W'.heap[W.heap.size+1]? = some (.cells cs1 t1 (0,0)))(h2:W'.heap[W.heap.size+2]? = some (.cells cs2 t2 (0,0)))(h3:W'.heap[W.heap.size+3]? = some (.cells cs3 t3 (0,0))):Sf X w (B++ [(W.heap.size,cs0,t0),(W.heap.size+1,cs1,t1),(W.heap.size+2,cs2,t2),(W.heap.size+3,cs3,t3)]) G W' :=
 h.news hb _ (fun x hx=>by
  simp only[List.mem_cons,List.not_mem_nil,or_false]at hx;rcases hx with rfl | rfl | rfl | rfl
  · exact⟨h0,Nat.le_refl _⟩
  · exact⟨h1,Nat.le_add_right _ _⟩
  · exact⟨h2,Nat.le_add_right _ _⟩
  · exact⟨h3,Nat.le_add_right _ _⟩) (by simp)
theorem Sf.at (h:Sf X w B G W)(k:Nat){b:Nat}{cs:Array Value}{t:TypeId}(hk:B[k]? = some (b,cs,t)):W.heap[b]? = some (.cells cs t (0,0)):=(h.blk _ (List.mem_of_getElem? hk)).1
theorem Sf.own (h:Sf X w B G W)(k:Nat){b:Nat}{cs:Array Value}{t:TypeId}(hk:B[k]? = some (b,cs,t)):w.heap.size≤b∧b<W.heap.size:=⟨(h.blk _ (List.mem_of_getElem? hk)).2,h.lt (List.mem_of_getElem? hk)⟩
theorem Sf.set (h:Sf X w B G W)(k:Nat){b:Nat}{cs cs':Array Value}{t:TypeId}(hk:B[k]? = some (b,cs,t))(hb:Below b W W')(hg : ∀g,g≠b→W'.heap[g]? = W.heap[g]?)(hs:W'.heap.size=W.heap.size)(hn:W'.heap[b]? = some (.cells cs' t (0,0))) :
 Sf X w (B.set k (b,cs',t)) G W':=by
 have hm:=map_set_same (cs':=cs') hk;have hkl:=(List.getElem?_eq_some_iff.1 hk).1;have hXb:Xo X (B.map (·.1)) b:= .inr (List.mem_map.2 ⟨_,List.mem_of_getElem? hk,rfl⟩);have hwb:=(h.own k hk).1;refine⟨h.bel.trans (hb.mono hwb),h.old,fun x hx=> ?_,by rw[hm];exact h.nd,fun P hP=>by rw[hm];exact⟨(h.gv P hP).1,(h.gv P hP).1.other (h.gv P hP).2 hXb hs hg⟩⟩;obtain⟨j,hj⟩:=List.mem_iff_getElem?.1 hx;rw[List.getElem?_set]at hj;by_cases e:k=j
 · subst e
   rw[if_pos rfl,if_pos hkl]at hj;obtain rfl:=Option.some.inj hj;exact⟨hn,hwb⟩
 · rw[if_neg e]at hj
   have hne:x.1≠b:=fun e2=>by
    (have h1:(B.map (·.1))[k]? = some b:=by rw[List.getElem?_map,hk];rfl);(have h2:(B.map (·.1))[j]? = some b:=by rw[List.getElem?_map,hj,←e2];rfl);(have hkl':k<(B.map (·.1)).length:=by simpa using hkl);exact e ((List.getElem?_inj hkl' h.nd).1 (h1.trans h2.symm))
   exact⟨(hg _ hne).trans (h.blk x (List.mem_of_getElem? hj)).1,(h.blk x (List.mem_of_getElem? hj)).2⟩
theorem Sf.more (h:Sf X w B G W){P:Thing}(f:Firm P)(hg:P (Xo X (B.map (·.1))) W):Sf X w B (G++ [P]) W :=
 ⟨h.bel,h.old,h.blk,h.nd,fun Q hQ=>by
  rcases List.mem_append.1 hQ with hQ | hQ
  · exact h.gv Q hQ
  · rw[List.mem_singleton]at hQ;subst hQ;exact⟨f,hg⟩⟩
theorem Sf.less (h:Sf X w B G W){G':List Thing}(hG : ∀x∈G',x∈G):Sf X w B G' W:=⟨h.bel,h.old,h.blk,h.nd,fun x hx=>h.gv x (hG x hx)⟩
theorem Sf.leave (h:Sf X w B G W){B':List Bl}(hB:B'.Sublist B):Sf X w B' G W :=
 ⟨h.bel,h.old,fun x hx=>h.blk x (hB.subset hx),List.Sublist.nodup (hB.map _) h.nd,fun P hP=>⟨(h.gv P hP).1,(h.gv P hP).1.sub (h.gv P hP).2 fun _ hg=>hg.imp id fun hg=>(hB.map (·.1)).subset hg⟩⟩
theorem Sf.g (h:Sf X w B G W)(k:Nat){P:Thing}(hk:G[k]? = some P):P (Xo X (B.map (·.1))) W:=(h.gv _ (List.mem_of_getElem? hk)).2
theorem Sf.gX (h:Sf X w B G W)(k:Nat){P:Thing}(hk:G[k]? = some P):P X W:=(h.gv _ (List.mem_of_getElem? hk)).1.sub (h.gv _ (List.mem_of_getElem? hk)).2 fun _ hg=> .inl hg
theorem th1 {P:Thing}(f:Firm P)(h:P X w) : ∀Q∈ [P],Firm Q∧Q X w:=fun Q hQ=>by rw[List.mem_singleton]at hQ;subst hQ;exact⟨f,h⟩
theorem th2 {P Q:Thing}(f:Firm P)(h:P X w)(g:Firm Q)(k:Q X w) : ∀R∈ [P,Q],Firm R∧R X w:=fun R hR=>by
 simp only[List.mem_cons,List.not_mem_nil,or_false]at hR;rcases hR with rfl | rfl
 · exact⟨f,h⟩
 · exact⟨g,k⟩
end
end Go.Proofs.YtmiekcdkamgknaaGreatDoor
