import Derived.Test.YtinoogmaikhpjaaGreatDoorR17
import Derived.Test.YtinoogmaikhpjaaGreatDoorR15
import Derived.Deep.DeepCutAuto
import Derived.Deep.MidRow
import Derived.StillTailTactics
import Derived.Deep.AppendLies
import Derived.Deep.RegionHeld3
import Derived.BigRegion
import Derived.Test.YtinoogmaikhpjaaGreatDoorR14
import Derived.Deep.RegionLaw
import Derived.Handy
import Derived.Test.YtinoogmaikhpjaaGreatDoorR11
import Derived.Laws.IdiomCopy
import Derived.Lib.SliceRun
import Derived.Laws.ResultCell
import Derived.Deep.OwnRows
import Derived.Laws.CopyRow
import Derived.Laws.BytesString
import Derived.Lib.ConvBytes
import Derived.Lib.SlBuf
import Derived.Test.YtinoogmaikhpjaaGreatDoorR13
import Derived.Lib.LaidTab
import Derived.Lib.ItoaNum
namespace Go.Proofs.YtinoogmaikhpjaaGreatDoor
def Siz (a c:Nat)(l:List NodeL):Prop:=l.length≤a∧∀n∈l,n.data.length≤2000∧n.names.length≤c
theorem Siz.mono {a c a' c':Nat}{l:List NodeL}(h:Siz a c l)(ha:a≤a')(hc:c≤c'):Siz a' c' l :=
 ⟨Nat.le_trans h.1 ha,fun n hn=>⟨(h.2 n hn).1,Nat.le_trans (h.2 n hn).2 hc⟩⟩
theorem Siz.set {a c:Nat}{l:List NodeL}(h:Siz a c l){n:NodeL}(hn:n.data.length≤2000∧n.names.length≤c)(i:Int):Siz a c (setL l i n):=by
 unfold setL;split
 · refine⟨by rw[List.length_set];exact h.1,fun m hm=> ?_⟩
   rcases List.mem_or_eq_of_mem_set hm with hm | rfl
   · exact h.2 m hm
   · exact hn
 · exact h
theorem Siz.node {a c:Nat}{l:List NodeL}(h:Siz a c l)(i:Int):(nodeL l i).data.length≤2000∧(nodeL l i).names.length≤c:=by
 unfold nodeL;split
 · rename_i hg
   obtain⟨k,rfl,hlt,_⟩:=got_nat hg;rw[at_nd,nd_lt hlt];exact h.2 _ (List.getElem_mem hlt)
 · exact⟨Nat.zero_le _,Nat.zero_le _⟩
theorem Siz.add {a c:Nat}{l:List NodeL}(h:Siz a c l){n:NodeL}(hn:n.data.length≤2000∧n.names.length≤c)(most room:Int):Siz (a+1) c (addL l most room n):=by
 unfold addL;split
 · exact h.mono (Nat.le_succ a) (Nat.le_refl c)
 · split
   · refine⟨by rw[List.length_append,List.length_singleton];have:=h.1;omega,fun m hm=> ?_⟩
     rcases List.mem_append.1 hm with hm | hm
     · exact h.2 m hm
     · obtain rfl:=List.mem_singleton.1 hm
       exact hn
   · refine⟨by rw[List.length_set];have:=h.1;omega,fun m hm=> ?_⟩
     rcases List.mem_or_eq_of_mem_set hm with hm | rfl
     · exact h.2 m hm
     · exact hn
end Go.Proofs.YtinoogmaikhpjaaGreatDoor
namespace Go.Proofs.YtinoogmaikhpjaaGreatDoor
open Go.RowKit Go.Shelf
attribute [local go_sem ↓] Go.wp_at_zero Go.wp_at_succ
structure Sn (w:World) (B:List Bl) (G:List (List NodeL × Value)) (N:List (NodeL × Value)) (W:World):Prop where
 bel:Below w.heap.size w W
 blk : ∀x∈B,W.heap[x.1]? = some (.cells x.2.1 x.2.2 (0,0))
 gv : ∀x∈G,GivesN x.1 x.2 W
 nv : ∀x∈N,RdNm W.heap.size (x.1,x.2) W
theorem gives_no {l:List NodeL}{v:Value}{W:World}(h:GivesN l v W):GivesX (fun _=>False) l v W:=by
 obtain⟨m,a,b⟩:=h;exact⟨m,a,b,fun g hg=>hg.elim⟩
section
variable {w W W':World} {B:List Bl} {G:List (List NodeL × Value)} {N:List (NodeL × Value)}
theorem Sn.start {l:List NodeL}{v:Value}(hG:GivesN l v w):Sn w [] [(l,v)] [] w:=⟨Below.refl _ _,(fun _ h=>by cases h),(fun x hx=>by rw[List.mem_singleton]at hx;subst hx;exact hG),(fun _ h=>by cases h)⟩
theorem Sn.none:Sn w [] [] [] w:=⟨Below.refl _ _,(fun _ h=>by cases h),(fun _ h=>by cases h),(fun _ h=>by cases h)⟩
theorem Sn.lt (h:Sn w B G N W){x:Bl}(hx:x∈B):x.1<W.heap.size:=(Array.getElem?_eq_some_iff.1 (h.blk x hx)).1
theorem Sn.call (h:Sn w B G N W)(hb:Below W.heap.size W W'):Sn w B G N W' :=
 ⟨ret_tr h.bel hb,fun x hx=>(hb.block _ (h.lt hx)).trans (h.blk x hx),fun x hx=>(h.gv x hx).keep hb,fun x hx=>rdnm_keep (h.nv x hx) hb⟩
theorem Sn.news (h:Sn w B G N W)(hb:Below W.heap.size W W')(C:List Bl)(hC : ∀x∈C,W'.heap[x.1]? = some (.cells x.2.1 x.2.2 (0,0))):Sn w (B++C) G N W' :=
 ⟨ret_tr h.bel hb,fun x hx=>by
  rcases List.mem_append.1 hx with hx | hx
  · exact(hb.block _ (h.lt hx)).trans (h.blk x hx)
  · exact hC x hx,fun x hx=>(h.gv x hx).keep hb,fun x hx=>rdnm_keep (h.nv x hx) hb⟩
theorem Sn.new1 (h:Sn w B G N W)(hb:Below W.heap.size W W'){cs0:Array Value}{t0:TypeId}(h0:W'.heap[W.heap.size]? = some (.cells cs0 t0 (0,0))):Sn w (B++ [(W.heap.size,cs0,t0)]) G N W' :=
 h.news hb _ (fun x hx=>by
  simp only[List.mem_cons,List.not_mem_nil,or_false]at hx;subst hx
  exact h0)
theorem Sn.new2 (h:Sn w B G N W)(hb:Below W.heap.size W W'){cs0 cs1:Array Value}{t0 t1:TypeId}(h0:W'.heap[W.heap.size]? = some (.cells cs0 t0 (0,0)))(h1:W'.heap[W.heap.size+1]? = some (.cells cs1 t1 (0,0))):Sn w (B++ [(W.heap.size,cs0,t0),(W.heap.size+1,cs1,t1)]) G N W' :=
 h.news hb _ (fun x hx=>by
  simp only[List.mem_cons,List.not_mem_nil,or_false]at hx;rcases hx with rfl | rfl
  · exact h0
  · exact h1)
theorem Sn.at (h:Sn w B G N W)(k:Nat){b:Nat}{cs:Array Value}{t:TypeId}(hk:B[k]? = some (b,cs,t)):W.heap[b]? = some (.cells cs t (0,0)):=h.blk _ (List.mem_of_getElem? hk)
theorem Sn.at' (h:Sn w B G N W)(hb:Below W.heap.size W W')(k:Nat){b:Nat}{cs:Array Value}{t:TypeId}(hk:B[k]? = some (b,cs,t)):W'.heap[b]? = some (.cells cs t (0,0)):=(h.call hb).at k hk
theorem Sn.g (h:Sn w B G N W)(k:Nat){l:List NodeL}{v:Value}(hk:G[k]? = some (l,v)):GivesN l v W:=h.gv _ (List.mem_of_getElem? hk)
theorem Sn.n (h:Sn w B G N W)(k:Nat){n:NodeL}{v:Value}(hk:N[k]? = some (n,v)):RdNm W.heap.size (n,v) W:=h.nv _ (List.mem_of_getElem? hk)
theorem Sn.of {X:Nat→Prop}{C:List Bl}{G':List (List NodeL × Value)}(h:Sn w B G N W)(t:St X W C G' [] W'):Sn w (B++C) G' N W' :=
 ⟨ret_tr h.bel t.bel,fun x hx=>by
  rcases List.mem_append.1 hx with hx | hx
  · exact(t.bel.block _ (h.lt hx)).trans (h.blk x hx)
  · exact(t.blk x hx).1,fun x hx=>(t.gv x hx).gives,fun x hx=>rdnm_keep (h.nv x hx) t.bel⟩
end
open Go.Lib in
set_option maxRecDepth 100000 in
set_option maxHeartbeats 4000000 in
theorem its_x (v:Value)(ms:List NodeM)(most room:Int)(w:World)(hv:RdM w.heap.size v ms w)(hl:ms.length≤10000)(hnl : ∀n∈pl ms,n.names.length≤10000) :
 Calls Tryz.prog 20 #[.agg #[v, .int .i64 most, .int .i64 room]] w fun e w'=>∃v',e = .returned (.agg #[v', .int .i64 most, .int .i64 room])∧GivesX (fun g=>g<w.heap.size) (pl ms) v' w'∧Below w.heap.size w w':=by
 obtain⟨ao,cap,rfl,_,_⟩:=rdm_form hv;obtain⟨i0,hi,hz0,hz1,hz2⟩:=info_parts infoRNode;have HV:=Lib.hid hv;have HNL:=Lib.hid hnl;clear hv hnl;go_enter Tryz.func20,Tryz.ntmps20;go_wp2_with fail;refine fresh3 (P:=fun W=>Code.wp _ _ _ _ W) ?_;intro W0 hb0 hP hR hO hs0;go_loopw [4] (fun i wr=>∃(k:Nat) (vo:Value) (mo:List NodeM),i = .int .i64 k∧k≤ms.length∧Hid (pl mo=(pl ms).take k)∧Hid (OutD (w.heap.size+2) most room mo vo wr)∧Below (w.heap.size+2) W0 wr) (fun i _=>ms.length-(RowKit.intOf i).toNat)
 case atStart=>exact⟨0,_,[],rfl,Nat.zero_le _,Lib.hid rfl,Lib.hid ⟨hO,World.ownsRow_nil _ _ _ _,fun m hm=>by cases hm⟩,Below.refl _ _⟩
 case round =>
  obtain⟨k,vo,mo,rfl,hk,hmo,hOD,hBr⟩:=hrel;have sB:=hBr.size;have hPr:=(hBr.block _ (by omega)).trans hP;obtain⟨p0,p1,p2⟩:=cells3 hPr;have hBw:Below w.heap.size w wr:=hb0.trans (hBr.mono (by omega));have hbW:=hOD.out.lt;(have hml:mo.length=k:=by rw[←pl_len,hmo.out,List.length_take,pl_len];omega);by_cases hlt:k<ms.length
  · obtain⟨b,off,n,aon,capn,rfl,hb,hn,hmk,hrn,c0,c1,c2,c3,c4,c5,c6,c7⟩:=node_at (HV.out.below hBw) k hlt
    have hnn:n.names.length≤10000:=HNL.out n (by rw[←hn];exact List.getElem_mem _);have ht:Hid ((pl ms).take (k+1)=pl mo++ [n]):=Lib.hid (by rw[hmo.out,←hn];exact List.take_succ_eq_append_getElem (by rw[pl_len];exact hlt));(have ne1:vo.ownBlock≠some (w.heap.size+2):=fun e=>by have:=(hOD.out.own.lt _ e).1;omega);have HNR:Hid (RdNm wr.heap.size (n, .slice aon n.names.length capn) wr.drew):=Lib.hid (Rd.mono (show Rd w.heap.size 2 _ _ _ wr.drew from hrn) hBw.size);(have cb1:wr.cell? ⟨w.heap.size+2,0,none⟩=some vo:=by rw[Lib.cell_of_heap hOD.out.blk];rfl);have hod:OutD (w.heap.size+2) most room mo vo wr.drew:=hOD.out.below ((Below.refl _ _).drew);have HODD:=Lib.hid hod;clear hP hR hO hPr hn hmk hrn hod;go_wp2_with fail
    go_region_law
     (first
       | (go_simp;go_at_call 48;with_reducible refine(node_any n (.slice aon n.names.length capn) _ HNR.out hnn).mono ?_;rintro e w1 ⟨vn,rfl,hownN,hbN⟩;have hD1:=HODD.out.below hbN;have hlt1:=hD1.lt;have hownD:=hD1.own;have oneN : ∀u∈ncells (n,vn),u.oneCell'=true:=ncells_one hownN;have hownN':=own_mono hownN hbW;have belowN:=drew_below hbN (Nat.le_of_lt hbW);have hbD:w.heap.size+2+1≤(w1.alloc (.cells #[.int .i64 n.kind, .int .i64 n.mode, .int .i64 n.owner, .int .i64 n.links, .int .i64 n.opn, .int .i64 n.up, .string (bs n.data),vn] 70)).heap.size:=(by have:=hD1.lt;simp;omega);have fc1:w1.cell? ⟨w.heap.size+2,0,none⟩=some vo:=hD1.c0;have fcD:=hD1.ca;have ffD:=hD1.fa)
       | (refine step_append_lies _ (by rfl) _ _ _ (by rfl) (w.heap.size+2+1) 70 i0 _ 8 88 Tryz.underlying35 hi hz0 hz1 hz2 rfl (by omega) vo mo.length (cellsN mo) (by rfl) (hownD.alloc _)
           ⟨w1.heap.size,0,none⟩ 1 1 (ncells (n,vn)) (by rfl) (by rfl) (World.news_of_block (cs:= #[.int .i64 n.kind, .int .i64 n.mode, .int .i64 n.owner, .int .i64 n.links, .int .i64 n.opn, .int .i64 n.up, .string (bs n.data),vn]) (t:=70) (fr:=(0,0)) (heap_alloc_new w1 _)) oneN
           (by omega) (by unfold maxLen;omega) (by omega) hbD (w1.heap.size+1) (by simp) ?_;intro gg cap w2 hown2 hgrow hat hlt2;have ff2:w2.frozen? ⟨w.heap.size+2,0,none⟩=false:=(hgrow.frozen_far ⟨w.heap.size+2,0,none⟩ (by simp;omega) (Ne.symm ne1)).trans (ffD _);have fc2:w2.cell? ⟨w.heap.size+2,0,none⟩=some vo:=(hgrow.cell_far ⟨w.heap.size+2,0,none⟩ (by simp;omega) (Ne.symm ne1)).trans (fcD _)))
    all_goals
     have hON':=Lib.hid (hD1.put (n,vn) hownN' _ hgrow hown2);have hB4:Below (w.heap.size+2) W0 w2:=hBr.trans (belowN.trans (((Below.refl (w.heap.size+2) w1).alloc (Nat.le_of_lt hlt1) _).grown hgrow (by simp;omega) (fun g hg=>Nat.le_trans (Nat.le_succ _) (hownD.lt g hg).1)));clear ff2 fc2 hgrow hat hown2 fc1 fcD ffD;go_wp2_with fail;go_roundw
     case rel=>exact⟨k+1,_,mo++ [(n,vn)],by go_num,hlt,Lib.hid (by rw[ht.out];simp[pl]),hml▸hON',hB4.setCell (p:=⟨w.heap.size+2,0,none⟩) (Nat.le_refl _) _⟩
     case measure=>simp[RowKit.intOf];omega
  · have hke:k=ms.length:=by omega
    have HT:Hid (pl mo=pl ms):=Lib.hid (by rw[hmo.out,hke,←pl_len,List.take_length]);(have hI2:decide (k<ms.length)=false:=by simp;omega);have hRr:=(hBr.block _ (by omega)).trans hR;obtain⟨r0,r1,r2⟩:=cells3 hRr;(have rf:=fun j=>Lib.frozen_of_heap hRr j);obtain⟨o0,o1,o2⟩:=cells3 hOD.out.blk;obtain⟨aov,capv,rfl⟩:=own_form hOD.out.own;clear hke hlt;go_wp2_with fail;refine sets3 (P:=fun W=>bodyPost _ _ _ _ _ W) hRr ?_;intro W3 hb3 hg3 hs3 hR3;have hown3:RdM W3.heap.size (.slice aov mo.length capv) mo W3:=⟨Rd.own (ownsRow_other hOD.out.own fun g hg=>hg3 g (by omega)) (Nat.le_refl _),fun m hm=>Rd.own (ownsRow_other (hOD.out.nms m hm) fun g hg=>hg3 g (by omega)) (Nat.le_refl _)⟩;have hB3:Below w.heap.size w W3:=hBw.trans (hb3.mono (by omega));(have hav : ∀g,g<w.heap.size→AvoidM g (.slice aov mo.length capv) mo:=fun g hg=>⟨own_far hOD.out.own (by omega),fun m hm=>own_far (hOD.out.nms m hm) (by omega)⟩);rw[hml]at hown3 hav;clear r0 r1 r2 o0 o1 o2 rf;(try simp only[Exit.inBlock,Exit.then]);refine bodyPost_ret (results_cell_row (p:=2) (ty:=37) rfl _ W3 (w.heap.size+1) _ _ _ _ rfl hR3 Tryz.underlying37 rfl (by kernel_rfl)) rfl ?_;exact⟨_,rfl,⟨mo,HT.out,hown3,hav⟩,hB3⟩
theorem its_y (X:Nat→Prop)(l:List NodeL)(a b:Int)(hl:l.length≤10000)(hnl : ∀n∈l,n.names.length≤10000)(v:Value)(W:World)(hX:Old X W)(hg:GivesN l v W) :
 Calls Tryz.prog 20 #[.agg #[v, .int .i64 a, .int .i64 b]] W fun e w'=>∃ao cap,e = .returned (diskV ao l.length cap a b)∧GivesX X l (.slice ao l.length cap) w'∧Below W.heap.size W w':=by
 obtain⟨m,rfl,h⟩:=hg;refine(its_x v m a b W h (by rw[←pl_len];exact hl) hnl).mono ?_;rintro e w' ⟨v',rfl,h1,h2⟩;(have h3:=h1.sub (Y:=X) fun g hg=>hX g hg);obtain⟨ao,cap,rfl⟩:=gives_form h3;exact⟨ao,cap,rfl,h3,h2⟩
end Go.Proofs.YtinoogmaikhpjaaGreatDoor
namespace Go.Proofs.YtinoogmaikhpjaaGreatDoor
open Go.RowKit Go.Shelf
abbrev Thing:=(Nat→Prop)→World→Prop
structure Firm (P:Thing):Prop where
 add : ∀ {X Y:Nat→Prop} {W W':World},P X W→Below W.heap.size W W'→(∀g,Y g→X g∨W.heap.size≤g)→P Y W'
 other : ∀ {X:Nat→Prop} {b:Nat} {W W':World},P X W→X b→W'.heap.size=W.heap.size→(∀g,g≠b→W'.heap[g]? = W.heap[g]?)→P X W'
section
variable {P Q:Thing} {X Y:Nat→Prop} {W W':World}
theorem Firm.keep (f:Firm P)(h:P X W)(hb:Below W.heap.size W W'):P X W':=f.add h hb fun _ hg=> .inl hg
theorem Firm.sub (f:Firm P)(h:P X W)(hs : ∀g,Y g→X g):P Y W:=f.add h (Below.refl _ _) fun g hg=> .inl (hs g hg)
theorem Firm.and (f:Firm P)(g:Firm Q):Firm (fun X W=>P X W∧Q X W):=⟨fun h hb hY=>⟨f.add h.1 hb hY,g.add h.2 hb hY⟩,fun h hX hs hg=>⟨f.other h.1 hX hs hg,g.other h.2 hX hs hg⟩⟩
theorem Firm.ex {α:Type}{P:α→Thing}(f : ∀a,Firm (P a)):Firm (fun X W=>∃a,P a X W):=⟨fun h hb hY=>h.imp fun a h=>(f a).add h hb hY,fun h hX hs hg=>h.imp fun a h=>(f a).other h hX hs hg⟩
theorem Firm.all {α:Type}{P:α→Thing}{S:α→Prop}(f : ∀a,Firm (P a)):Firm (fun X W=>∀a,S a→P a X W):=⟨fun h hb hY a ha=>(f a).add (h a ha) hb hY,fun h hX hs hg a ha=>(f a).other (h a ha) hX hs hg⟩
theorem Firm.pure (p:Prop):Firm (fun _ _=>p):=⟨fun h _ _=>h,fun h _ _ _=>h⟩
end
def RdX (size:Nat)(v:Value)(n:Nat)(xs:List Value):Thing:=fun X W=>Rd W.heap.size size v n xs W∧∀g,X g→Avoid g v
theorem RdX.firm (size:Nat)(v:Value)(n:Nat)(xs:List Value):Firm (RdX size v n xs) :=
 ⟨fun h hb hY=>⟨rd_keep h.1 hb,fun g hg=>(hY g hg).elim (h.2 g) fun h1=>rd_far h.1 h1⟩,
  fun {X b W W'} h hX hs hg=>⟨by rw[hs];exact rd_other h.1 (h.2 b hX) hg,h.2⟩⟩
theorem RdX.none0 (size:Nat)(X:Nat→Prop)(W:World):RdX size (.slice none 0 0) 0 [] X W:=⟨Rd.none0 _ _ _,fun g _ a n c e _=>by cases e⟩
theorem RdX.form {size n:Nat}{v:Value}{xs:List Value}{X:Nat→Prop}{W:World}(h:RdX size v n xs X W) : ∃ao cap,v = .slice ao n cap:=by
 obtain⟨ao,cap,e,_,_⟩:=Rd.form h.1;exact⟨ao,cap,e⟩
theorem RdX.own {base size n:Nat}{e:TypeId}{v:Value}{xs:List Value}{X:Nat→Prop}{W:World}(h:W.ownsRow base e size v n xs)(hX : ∀g,X g→g<base):RdX size v n xs X W :=
 ⟨Rd.own h (Nat.le_refl _),fun g hg=>own_far h (hX g hg)⟩
theorem RdX.ofNo {size n:Nat}{v:Value}{xs:List Value}{W:World}(h:Rd W.heap.size size v n xs W):RdX size v n xs (fun _=>False) W:=⟨h,fun _ hg=>hg.elim⟩
structure Sf (X:Nat→Prop) (w:World) (B:List Bl) (G:List Thing) (W:World):Prop where
 bel:Below w.heap.size w W
 old:Old X w
 blk : ∀x∈B,W.heap[x.1]? = some (.cells x.2.1 x.2.2 (0,0))∧w.heap.size≤x.1
 nd:(B.map (·.1)).Nodup
 gv : ∀P∈G,Firm P∧P (Xo X (B.map (·.1))) W
section
variable {X:Nat→Prop} {w W W':World} {B:List Bl} {G:List Thing}
theorem Sf.lt (h:Sf X w B G W){x:Bl}(hx:x∈B):x.1<W.heap.size:=(Array.getElem?_eq_some_iff.1 (h.blk x hx).1).1
theorem Sf.start (hX:Old X w)(hG : ∀P∈G,Firm P∧P X w):Sf X w [] G w :=
 ⟨Below.refl _ _,hX,(fun _ h=>by cases h),List.nodup_nil,fun P hP=>⟨(hG P hP).1,(hG P hP).1.sub (hG P hP).2 fun g hg=>hg.elim id (fun h=>by cases h)⟩⟩
theorem Sf.call (h:Sf X w B G W)(hb:Below W.heap.size W W'):Sf X w B G W' :=
 ⟨ret_tr h.bel hb,h.old,fun x hx=>⟨(hb.block _ (h.lt hx)).trans (h.blk x hx).1,(h.blk x hx).2⟩,h.nd,fun P hP=>⟨(h.gv P hP).1,(h.gv P hP).1.keep (h.gv P hP).2 hb⟩⟩
theorem Sf.oldX (h:Sf X w B G W):Old (Xo X (B.map (·.1))) W:=fun g hg=>by
 rcases hg with hg | hg
 · exact Nat.lt_of_lt_of_le (h.old g hg) h.bel.size
 · obtain⟨x,hx,rfl⟩:=List.mem_map.1 hg
   exact h.lt hx
theorem Sf.news (h:Sf X w B G W)(hb:Below W.heap.size W W')(C:List Bl)(hC : ∀x∈C,W'.heap[x.1]? = some (.cells x.2.1 x.2.2 (0,0))∧W.heap.size≤x.1)(hn:(C.map (·.1)).Nodup):Sf X w (B++C) G W':=by
 have hY : ∀g,Xo X ((B++C).map (·.1)) g→Xo X (B.map (·.1)) g∨W.heap.size≤g:=fun g hg=>by
  rcases hg with hg | hg
  · exact .inl (.inl hg)
  · rw[List.map_append,List.mem_append]at hg
    rcases hg with hg | hg
    · exact .inl (.inr hg)
    · obtain⟨x,hx,rfl⟩:=List.mem_map.1 hg
      exact .inr (hC x hx).2
 refine⟨ret_tr h.bel hb,h.old,fun x hx=> ?_,?_,fun P hP=>⟨(h.gv P hP).1,(h.gv P hP).1.add (h.gv P hP).2 hb hY⟩⟩
 · rcases List.mem_append.1 hx with hx | hx
   · exact⟨(hb.block _ (h.lt hx)).trans (h.blk x hx).1,(h.blk x hx).2⟩
   · exact⟨(hC x hx).1,Nat.le_trans h.bel.size (hC x hx).2⟩
 · rw[List.map_append,List.nodup_append]
   refine⟨h.nd,hn,fun a ha b hb2 e=> ?_⟩;obtain⟨x,hx,rfl⟩:=List.mem_map.1 ha;obtain⟨y,hy,rfl⟩:=List.mem_map.1 hb2;have:=h.lt hx;have:=(hC y hy).2;omega
theorem Sf.new1 (h:Sf X w B G W)(hb:Below W.heap.size W W'){cs0:Array Value}{t0:TypeId}(h0:W'.heap[W.heap.size]? = some (.cells cs0 t0 (0,0))):Sf X w (B++ [(W.heap.size,cs0,t0)]) G W' :=
 h.news hb _ (fun x hx=>by
  simp only[List.mem_cons,List.not_mem_nil,or_false]at hx;rcases hx with rfl
  · exact⟨h0,Nat.le_refl _⟩) (by simp)
theorem Sf.new2 (h:Sf X w B G W)(hb:Below W.heap.size W W'){cs0 cs1:Array Value}{t0 t1:TypeId}(h0:W'.heap[W.heap.size]? = some (.cells cs0 t0 (0,0)))(h1:W'.heap[W.heap.size+1]? = some (.cells cs1 t1 (0,0))):Sf X w (B++ [(W.heap.size,cs0,t0),(W.heap.size+1,cs1,t1)]) G W' :=
 h.news hb _ (fun x hx=>by
  simp only[List.mem_cons,List.not_mem_nil,or_false]at hx;rcases hx with rfl | rfl
  · exact⟨h0,Nat.le_refl _⟩
  · exact⟨h1,Nat.le_add_right _ _⟩) (by simp)
theorem Sf.at (h:Sf X w B G W)(k:Nat){b:Nat}{cs:Array Value}{t:TypeId}(hk:B[k]? = some (b,cs,t)):W.heap[b]? = some (.cells cs t (0,0)):=(h.blk _ (List.mem_of_getElem? hk)).1
theorem Sf.own (h:Sf X w B G W)(k:Nat){b:Nat}{cs:Array Value}{t:TypeId}(hk:B[k]? = some (b,cs,t)):w.heap.size≤b∧b<W.heap.size:=⟨(h.blk _ (List.mem_of_getElem? hk)).2,h.lt (List.mem_of_getElem? hk)⟩
theorem Sf.set (h:Sf X w B G W)(k:Nat){b:Nat}{cs cs':Array Value}{t:TypeId}(hk:B[k]? = some (b,cs,t))(hb:Below b W W')(hg : ∀g,g≠b→W'.heap[g]? = W.heap[g]?)(hs:W'.heap.size=W.heap.size)(hn:W'.heap[b]? = some (.cells cs' t (0,0))) :
 Sf X w (B.set k (b,cs',t)) G W':=by
 have hm:=map_set_same (cs':=cs') hk;have hkl:=(List.getElem?_eq_some_iff.1 hk).1;have hXb:Xo X (B.map (·.1)) b:= .inr (List.mem_map.2 ⟨_,List.mem_of_getElem? hk,rfl⟩);have hwb:=(h.own k hk).1;refine⟨h.bel.trans (hb.mono hwb),h.old,fun x hx=> ?_,by rw[hm];exact h.nd,fun P hP=>by rw[hm];exact⟨(h.gv P hP).1,(h.gv P hP).1.other (h.gv P hP).2 hXb hs hg⟩⟩;obtain⟨j,hj⟩:=List.mem_iff_getElem?.1 hx;rw[List.getElem?_set]at hj;by_cases e:k=j
 · subst e
   rw[if_pos rfl,if_pos hkl]at hj;obtain rfl:=Option.some.inj hj;exact⟨hn,hwb⟩
 · rw[if_neg e]at hj
   have hne:x.1≠b:=fun e2=>by
    (have h1:(B.map (·.1))[k]? = some b:=by rw[List.getElem?_map,hk];rfl);(have h2:(B.map (·.1))[j]? = some b:=by rw[List.getElem?_map,hj,←e2];rfl);(have hkl':k<(B.map (·.1)).length:=by simpa using hkl);exact e ((List.getElem?_inj hkl' h.nd).1 (h1.trans h2.symm))
   exact⟨(hg _ hne).trans (h.blk x (List.mem_of_getElem? hj)).1,(h.blk x (List.mem_of_getElem? hj)).2⟩
theorem Sf.more (h:Sf X w B G W){P:Thing}(f:Firm P)(hg:P (Xo X (B.map (·.1))) W):Sf X w B (G++ [P]) W :=
 ⟨h.bel,h.old,h.blk,h.nd,fun Q hQ=>by
  rcases List.mem_append.1 hQ with hQ | hQ
  · exact h.gv Q hQ
  · rw[List.mem_singleton]at hQ;subst hQ;exact⟨f,hg⟩⟩
theorem Sf.less (h:Sf X w B G W){G':List Thing}(hG : ∀x∈G',x∈G):Sf X w B G' W:=⟨h.bel,h.old,h.blk,h.nd,fun x hx=>h.gv x (hG x hx)⟩
theorem Sf.leave (h:Sf X w B G W){B':List Bl}(hB:B'.Sublist B):Sf X w B' G W :=
 ⟨h.bel,h.old,fun x hx=>h.blk x (hB.subset hx),List.Sublist.nodup (hB.map _) h.nd,fun P hP=>⟨(h.gv P hP).1,(h.gv P hP).1.sub (h.gv P hP).2 fun _ hg=>hg.imp id fun hg=>(hB.map (·.1)).subset hg⟩⟩
theorem Sf.g (h:Sf X w B G W)(k:Nat){P:Thing}(hk:G[k]? = some P):P (Xo X (B.map (·.1))) W:=(h.gv _ (List.mem_of_getElem? hk)).2
theorem Sf.gX (h:Sf X w B G W)(k:Nat){P:Thing}(hk:G[k]? = some P):P X W:=(h.gv _ (List.mem_of_getElem? hk)).1.sub (h.gv _ (List.mem_of_getElem? hk)).2 fun _ hg=> .inl hg
theorem th1 {P:Thing}(f:Firm P)(h:P X w) : ∀Q∈ [P],Firm Q∧Q X w:=fun Q hQ=>by rw[List.mem_singleton]at hQ;subst hQ;exact⟨f,h⟩
end
end Go.Proofs.YtinoogmaikhpjaaGreatDoor
namespace Go.Proofs.YtinoogmaikhpjaaGreatDoor
open Go.RowKit Go.Shelf
structure BelB (q:Nat) (w w':World):Prop where
 os:w'.os=w.os
 tape:w'.tape=w.tape
 output:w'.output=w.output
 size:w.heap.size≤w'.heap.size
 block : ∀k,k<w.heap.size→k≠q→w'.heap[k]? = w.heap[k]?
theorem BelB.refl (q:Nat)(w:World):BelB q w w:=⟨rfl,rfl,rfl,Nat.le_refl _,fun _ _ _=>rfl⟩
theorem BelB.trans {q:Nat}{a b c:World}(h:BelB q a b)(k:BelB q b c):BelB q a c :=
 ⟨k.os.trans h.os,k.tape.trans h.tape,k.output.trans h.output,Nat.le_trans h.size k.size,fun i hi hq=>(k.block i (Nat.lt_of_lt_of_le hi h.size) hq).trans (h.block i hi hq)⟩
theorem BelB.of {q:Nat}{w w':World}(h:Below w.heap.size w w'):BelB q w w':=⟨h.os,h.tape,h.output,h.size,fun i hi _=>h.block i hi⟩
theorem BelB.bel {q:Nat}{a w w':World}(ha:Below a.heap.size a w)(hq:a.heap.size≤q)(h:BelB q w w'):Below a.heap.size a w' :=
 ⟨h.os.trans ha.os,h.tape.trans ha.tape,h.output.trans ha.output,Nat.le_trans ha.size h.size,fun i hi=>(h.block i (Nat.lt_of_lt_of_le hi ha.size) (by omega)).trans (ha.block i hi)⟩
structure Sw (X:Nat→Prop) (w:World) (q:Nat) (B:List Bl) (G:List Thing) (W:World):Prop where
 bel:BelB q w W
 old:Old X w
 blk : ∀x∈B,W.heap[x.1]? = some (.cells x.2.1 x.2.2 (0,0))∧(w.heap.size≤x.1∨x.1=q)
 nd:(B.map (·.1)).Nodup
 gv : ∀P∈G,Firm P∧P (Xo X (B.map (·.1))) W
section
variable {X:Nat→Prop} {w W W':World} {q:Nat} {B:List Bl} {G:List Thing}
theorem Sw.lt (h:Sw X w q B G W){x:Bl}(hx:x∈B):x.1<W.heap.size:=(Array.getElem?_eq_some_iff.1 (h.blk x hx).1).1
theorem Sw.start (hX:Old X w)(hq:X q){cs:Array Value}{t:TypeId}(hc:w.heap[q]? = some (.cells cs t (0,0)))(hG : ∀P∈G,Firm P∧P X w):Sw X w q [(q,cs,t)] G w :=
 ⟨BelB.refl _ _,hX,(fun x hx=>by rw[List.mem_singleton]at hx;subst hx;exact⟨hc, .inr rfl⟩),by simp,fun P hP=>⟨(hG P hP).1,(hG P hP).1.sub (hG P hP).2 fun g hg=>hg.elim id (fun h=>by
  simp only[List.map_cons,List.map_nil,List.mem_singleton]at h
  subst h;exact hq)⟩⟩
theorem Sw.call (h:Sw X w q B G W)(hb:Below W.heap.size W W'):Sw X w q B G W' :=
 ⟨h.bel.trans (.of hb),h.old,fun x hx=>⟨(hb.block _ (h.lt hx)).trans (h.blk x hx).1,(h.blk x hx).2⟩,h.nd,fun P hP=>⟨(h.gv P hP).1,(h.gv P hP).1.keep (h.gv P hP).2 hb⟩⟩
theorem Sw.oldX (h:Sw X w q B G W):Old (Xo X (B.map (·.1))) W:=fun g hg=>by
 rcases hg with hg | hg
 · exact Nat.lt_of_lt_of_le (h.old g hg) h.bel.size
 · obtain⟨x,hx,rfl⟩:=List.mem_map.1 hg
   exact h.lt hx
theorem Sw.news (h:Sw X w q B G W)(hb:Below W.heap.size W W')(C:List Bl)(hC : ∀x∈C,W'.heap[x.1]? = some (.cells x.2.1 x.2.2 (0,0))∧W.heap.size≤x.1)(hn:(C.map (·.1)).Nodup):Sw X w q (B++C) G W':=by
 have hY : ∀g,Xo X ((B++C).map (·.1)) g→Xo X (B.map (·.1)) g∨W.heap.size≤g:=fun g hg=>by
  rcases hg with hg | hg
  · exact .inl (.inl hg)
  · rw[List.map_append,List.mem_append]at hg
    rcases hg with hg | hg
    · exact .inl (.inr hg)
    · obtain⟨x,hx,rfl⟩:=List.mem_map.1 hg
      exact .inr (hC x hx).2
 refine⟨h.bel.trans (.of hb),h.old,fun x hx=> ?_,?_,fun P hP=>⟨(h.gv P hP).1,(h.gv P hP).1.add (h.gv P hP).2 hb hY⟩⟩
 · rcases List.mem_append.1 hx with hx | hx
   · exact⟨(hb.block _ (h.lt hx)).trans (h.blk x hx).1,(h.blk x hx).2⟩
   · exact⟨(hC x hx).1, .inl (Nat.le_trans h.bel.size (hC x hx).2)⟩
 · rw[List.map_append,List.nodup_append]
   refine⟨h.nd,hn,fun a ha b hb2 e=> ?_⟩;obtain⟨x,hx,rfl⟩:=List.mem_map.1 ha;obtain⟨y,hy,rfl⟩:=List.mem_map.1 hb2;have:=h.lt hx;have:=(hC y hy).2;omega
theorem Sw.new1 (h:Sw X w q B G W)(hb:Below W.heap.size W W'){cs0:Array Value}{t0:TypeId}(h0:W'.heap[W.heap.size]? = some (.cells cs0 t0 (0,0))):Sw X w q (B++ [(W.heap.size,cs0,t0)]) G W' :=
 h.news hb _ (fun x hx=>by
  simp only[List.mem_cons,List.not_mem_nil,or_false]at hx;rcases hx with rfl
  · exact⟨h0,Nat.le_refl _⟩) (by simp)
theorem Sw.new2 (h:Sw X w q B G W)(hb:Below W.heap.size W W'){cs0 cs1:Array Value}{t0 t1:TypeId}(h0:W'.heap[W.heap.size]? = some (.cells cs0 t0 (0,0)))(h1:W'.heap[W.heap.size+1]? = some (.cells cs1 t1 (0,0))):Sw X w q (B++ [(W.heap.size,cs0,t0),(W.heap.size+1,cs1,t1)]) G W' :=
 h.news hb _ (fun x hx=>by
  simp only[List.mem_cons,List.not_mem_nil,or_false]at hx;rcases hx with rfl | rfl
  · exact⟨h0,Nat.le_refl _⟩
  · exact⟨h1,Nat.le_add_right _ _⟩) (by simp)
theorem Sw.at (h:Sw X w q B G W)(k:Nat){b:Nat}{cs:Array Value}{t:TypeId}(hk:B[k]? = some (b,cs,t)):W.heap[b]? = some (.cells cs t (0,0)):=(h.blk _ (List.mem_of_getElem? hk)).1
theorem Sw.own (h:Sw X w q B G W)(k:Nat){b:Nat}{cs:Array Value}{t:TypeId}(hk:B[k]? = some (b,cs,t)):(w.heap.size≤b∨b=q)∧b<W.heap.size:=⟨(h.blk _ (List.mem_of_getElem? hk)).2,h.lt (List.mem_of_getElem? hk)⟩
theorem box_set {k:Nat}{b:Nat}{cs cs':Array Value}{t:TypeId}(hk:B[k]? = some (b,cs,t))(hnd:(B.map (·.1)).Nodup){x:Bl}(hx:x∈B.set k (b,cs',t)):x=(b,cs',t)∨(x∈B∧x.1≠b):=by
 have hkl:=(List.getElem?_eq_some_iff.1 hk).1;obtain⟨j,hj⟩:=List.mem_iff_getElem?.1 hx;rw[List.getElem?_set]at hj;by_cases e:k=j
 · subst e
   rw[if_pos rfl,if_pos hkl]at hj;exact .inl (Option.some.inj hj).symm
 · rw[if_neg e]at hj
   refine .inr ⟨List.mem_of_getElem? hj,fun e2=> ?_⟩;(have h1:(B.map (·.1))[k]? = some b:=by rw[List.getElem?_map,hk];rfl);(have h2:(B.map (·.1))[j]? = some b:=by rw[List.getElem?_map,hj,←e2];rfl);(have hkl':k<(B.map (·.1)).length:=by simpa using hkl);exact e ((List.getElem?_inj hkl' hnd).1 (h1.trans h2.symm))
theorem Sw.set (h:Sw X w q B G W)(k:Nat){b:Nat}{cs cs':Array Value}{t:TypeId}(hk:B[k]? = some (b,cs,t))(hb:Below b W W')(hg : ∀g,g≠b→W'.heap[g]? = W.heap[g]?)(hs:W'.heap.size=W.heap.size)(hn:W'.heap[b]? = some (.cells cs' t (0,0))) :
 Sw X w q (B.set k (b,cs',t)) G W':=by
 have hm:=map_set_same (cs':=cs') hk;have hXb:Xo X (B.map (·.1)) b:= .inr (List.mem_map.2 ⟨_,List.mem_of_getElem? hk,rfl⟩);have hwb:=(h.own k hk).1;refine⟨⟨hb.os.trans h.bel.os,hb.tape.trans h.bel.tape,hb.output.trans h.bel.output,by rw[hs];exact h.bel.size,fun g hl hq=>(hg g (by omega)).trans (h.bel.block g hl hq)⟩,h.old,fun x hx=> ?_,by rw[hm];exact h.nd,fun P hP=>by rw[hm];exact⟨(h.gv P hP).1,(h.gv P hP).1.other (h.gv P hP).2 hXb hs hg⟩⟩;rcases box_set hk h.nd hx with rfl | ⟨hx,hne⟩
 · exact⟨hn,hwb⟩
 · exact⟨(hg _ hne).trans (h.blk x hx).1,(h.blk x hx).2⟩
theorem Sw.more (h:Sw X w q B G W){P:Thing}(f:Firm P)(hg:P (Xo X (B.map (·.1))) W):Sw X w q B (G++ [P]) W :=
 ⟨h.bel,h.old,h.blk,h.nd,fun Q hQ=>by
  rcases List.mem_append.1 hQ with hQ | hQ
  · exact h.gv Q hQ
  · rw[List.mem_singleton]at hQ;subst hQ;exact⟨f,hg⟩⟩
theorem Sw.less (h:Sw X w q B G W){G':List Thing}(hG : ∀x∈G',x∈G):Sw X w q B G' W:=⟨h.bel,h.old,h.blk,h.nd,fun x hx=>h.gv x (hG x hx)⟩
theorem Sw.leave (h:Sw X w q B G W){B':List Bl}(hB:B'.Sublist B):Sw X w q B' G W :=
 ⟨h.bel,h.old,fun x hx=>h.blk x (hB.subset hx),List.Sublist.nodup (hB.map _) h.nd,fun P hP=>⟨(h.gv P hP).1,(h.gv P hP).1.sub (h.gv P hP).2 fun _ hg=>hg.imp id fun hg=>(hB.map (·.1)).subset hg⟩⟩
theorem Sw.g (h:Sw X w q B G W)(k:Nat){P:Thing}(hk:G[k]? = some P):P (Xo X (B.map (·.1))) W:=(h.gv _ (List.mem_of_getElem? hk)).2
theorem Sw.gX (h:Sw X w q B G W)(k:Nat){P:Thing}(hk:G[k]? = some P):P X W:=(h.gv _ (List.mem_of_getElem? hk)).1.sub (h.gv _ (List.mem_of_getElem? hk)).2 fun _ hg=> .inl hg
def RowTh (b:Nat)(cs:Array Value)(t:TypeId):Thing:=fun X W=>W.heap[b]? = some (.cells cs t (0,0))∧¬X b
theorem RowTh.firm (b:Nat)(cs:Array Value)(t:TypeId):Firm (RowTh b cs t) :=
 ⟨fun h hb hY=>⟨(hb.block _ (Array.getElem?_eq_some_iff.1 h.1).1).trans h.1,fun hy=>(hY b hy).elim h.2 fun h1=>absurd (Array.getElem?_eq_some_iff.1 h.1).1 (by omega)⟩,
  fun h hX hs hg=>⟨(hg b fun e=>h.2 (e▸hX)).trans h.1,h.2⟩⟩
theorem Sw.same (h:Sw X w q B G W)(k:Nat){cs:Array Value}{t:TypeId}(hk:B[k]? = some (q,cs,t))(hW:w.heap[q]? = some (.cells cs t (0,0))):Below w.heap.size w W :=
 ⟨h.bel.os,h.bel.tape,h.bel.output,h.bel.size,fun g hg=>by
  by_cases e:g=q
  · subst e;rw[h.at k hk,hW]
  · exact h.bel.block g hg e⟩
end
end Go.Proofs.YtinoogmaikhpjaaGreatDoor
namespace Go.Proofs.YtinoogmaikhpjaaGreatDoor
open Go.RowKit Go.Shelf
structure Env (S:Nat→Addr) (W:World):Prop where
 sent:Sent S W
 tab:Lib.TabIs Tryz.prog W "internal/strconv.uint64pow10" .u64 Lib.pow10Tab
theorem powGlob:Tryz.prog.globalNamed "internal/strconv.uint64pow10" = some 12:=by kernel_rfl
def envB (S:Nat→Addr):List Nat:= [6,1,7,4,8,5,3,2,9,10,0,12]++codes.map fun k=>(S k).block
theorem cell_like {W W':World}{a:Addr}(h:W'.heap[a.block]? = W.heap[a.block]?):W'.cell? a=W.cell? a:=World.cell?_of_block (w:=W) h
theorem Env.like {S:Nat→Addr}{W W':World}(h:Env S W)(hs : ∀g∈envB S,W'.heap[g]? = W.heap[g]?):Env S W':=by
 (have g0:6∈envB S:=by simp[envB]);(have g1:1∈envB S:=by simp[envB]);(have g2:7∈envB S:=by simp[envB]);(have g3:4∈envB S:=by simp[envB]);(have g4:8∈envB S:=by simp[envB]);(have g5:5∈envB S:=by simp[envB]);(have g6:3∈envB S:=by simp[envB]);(have g7:2∈envB S:=by simp[envB]);(have g8:9∈envB S:=by simp[envB]);(have g9:10∈envB S:=by simp[envB]);(have g10:0∈envB S:=by simp[envB]);(have g11:12∈envB S:=by simp[envB]);refine⟨⟨(cell_like (a:=⟨6,0,none⟩) (hs _ g0)).trans h.sent.e1,(cell_like (a:=⟨1,0,none⟩) (hs _ g1)).trans h.sent.e2,(cell_like (a:=⟨7,0,none⟩) (hs _ g2)).trans h.sent.e3,(cell_like (a:=⟨4,0,none⟩) (hs _ g3)).trans h.sent.e4,(cell_like (a:=⟨8,0,none⟩) (hs _ g4)).trans h.sent.e5,(cell_like (a:=⟨5,0,none⟩) (hs _ g5)).trans h.sent.e6,(cell_like (a:=⟨3,0,none⟩) (hs _ g6)).trans h.sent.e7,(cell_like (a:=⟨2,0,none⟩) (hs _ g7)).trans h.sent.e9,(cell_like (a:=⟨9,0,none⟩) (hs _ g8)).trans h.sent.e11,(cell_like (a:=⟨10,0,none⟩) (hs _ g9)).trans h.sent.e15,fun k hk=> ?_,h.sent.inj,(cell_like (a:=⟨0,0,none⟩) (hs _ g10)).trans h.sent.err⟩,?_⟩
 · obtain⟨c,t,hc⟩:=h.sent.blk k hk
   exact⟨c,t,(hs _ (by unfold envB;exact List.mem_append_right _ (List.mem_map.2 ⟨k,hk,rfl⟩))).trans hc⟩
 · have ht:=h.tab
   unfold Lib.TabIs World.var? at ht ⊢;rw[powGlob,Option.bind_some]at ht ⊢;rw[hs _ g11];exact ht
theorem Env.low {S:Nat→Addr}{W:World}(h:Env S W) : ∀g∈envB S,g<W.heap.size:=fun g hg=>by
 rcases List.mem_append.1 hg with hg | hg
 · simp only[List.mem_cons,List.not_mem_nil,or_false]at hg
   rcases hg with rfl | rfl | rfl | rfl | rfl | rfl | rfl | rfl | rfl | rfl | rfl | rfl
   · exact World.block_lt_of_cell? W _ h.sent.e1
   · exact World.block_lt_of_cell? W _ h.sent.e2
   · exact World.block_lt_of_cell? W _ h.sent.e3
   · exact World.block_lt_of_cell? W _ h.sent.e4
   · exact World.block_lt_of_cell? W _ h.sent.e5
   · exact World.block_lt_of_cell? W _ h.sent.e6
   · exact World.block_lt_of_cell? W _ h.sent.e7
   · exact World.block_lt_of_cell? W _ h.sent.e9
   · exact World.block_lt_of_cell? W _ h.sent.e11
   · exact World.block_lt_of_cell? W _ h.sent.e15
   · exact World.block_lt_of_cell? W _ h.sent.err
   · have:=h.tab.cell powGlob 0 (by decide)
     exact World.block_lt_of_cell? W _ this
 · obtain⟨k,hk,rfl⟩:=List.mem_map.1 hg
   obtain⟨c,t,hc⟩:=h.sent.blk k hk;exact(Array.getElem?_eq_some_iff.1 hc).1
def EnvX (S:Nat→Addr):Thing:=fun X W=>Env S W∧∀g∈envB S,¬X g
theorem EnvX.firm (S:Nat→Addr):Firm (EnvX S) :=
 ⟨fun h hb hY=>⟨h.1.like fun g hg=>hb.block g (h.1.low g hg),fun g hg hyg=>(hY g hyg).elim (h.2 g hg) fun h1=>absurd (h.1.low g hg) (by omega)⟩,
  fun h hX hs hg=>⟨h.1.like fun g hgb=>hg g fun e=>h.2 g hgb (e▸hX),h.2⟩⟩
theorem EnvX.none {S:Nat→Addr}{W:World}(h:Env S W):EnvX S (fun _=>False) W:=⟨h,fun _ _ h=>h⟩
end Go.Proofs.YtinoogmaikhpjaaGreatDoor
