import Derived.Test.YtmiekcdkamgknaaGreatDoorR14
import Derived.Test.YtmiekcdkamgknaaGreatDoorR13
import Derived.Deep.RegionHeld3
import Derived.Deep.RegionLaw
import Derived.Handy
namespace Go.Proofs.YtmiekcdkamgknaaGreatDoor
open Go.RowKit Go.Shelf Go.Lib
attribute [local go_sem ↓] Go.wp_at_zero Go.wp_at_succ
theorem ownsRow_grown {W W':World}{base:Nat}{e:TypeId}{size n:Nat}{v:Value}{xs:List Value}{row:Option Nat}(h:W.ownsRow base e size v n xs)(hg:W.grownBy W' row)(hne : ∀g,v.ownBlock=some g→row≠some g):W'.ownsRow base e size v n xs:=by
 refine⟨h.1,h.2.imp id ?_⟩;rintro⟨g,cap,cur,rfl,h2,h3,h4⟩;exact⟨g,cap,cur,rfl,h2,(hg.block g (Array.getElem?_eq_some_iff.1 h3).1 (fun e=>hne g rfl e.symm)).trans h3,h4⟩
theorem own_ne {W:World}{b1 b2:Nat}{e1 e2:TypeId}{s1 s2 n1 n2:Nat}{v1 v2:Value}{x1 x2:List Value}(h:W.ownsRow b1 e1 s1 v1 n1 x1)(h':W.ownsRow b2 e2 s2 v2 n2 x2)(hne:e1≠e2) : ∀g,v1.ownBlock=some g→v2.ownBlock≠some g:=by
 intro g hg hg';rcases h.2 with⟨rfl,_⟩ | ⟨g1,cap1,cur1,rfl,_,hh1,_⟩
 · simp[Value.ownBlock]at hg
 rcases h'.2 with⟨rfl,_⟩ | ⟨g2,cap2,cur2,rfl,_,hh2,_⟩
 · simp[Value.ownBlock]at hg'
 (obtain rfl:g1=g:=by simpa[Value.ownBlock]using hg);(obtain rfl:g2=g1:=by simpa[Value.ownBlock]using hg');rw[hh1]at hh2;injection hh2 with hh2;injection hh2 with _ ht;exact hne ht
theorem heap_keep {W W':World}{row:Option Nat}{b:Nat}{o:Obj}(h:W.heap[b]? = some o)(hg:W.grownBy W' row)(hne:row≠some b):W'.heap[b]? = some o :=
 (hg.block b (Array.getElem?_eq_some_iff.1 h).1 (fun e=>hne e.symm)).trans h
theorem own_mono {W:World}{b1 b2:Nat}{e:TypeId}{size n:Nat}{v:Value}{xs:List Value}(h:W.ownsRow b1 e size v n xs)(hb:b2≤b1):W.ownsRow b2 e size v n xs:=by
 refine⟨h.1,h.2.imp id ?_⟩;rintro⟨g,cap,cur,rfl,h2,h3⟩;exact⟨g,cap,cur,rfl,Nat.le_trans hb h2,h3⟩
theorem ownsRow_other {W W':World}{base:Nat}{e:TypeId}{size n:Nat}{v:Value}{xs:List Value}(h:W.ownsRow base e size v n xs)(hb : ∀g,base≤g→W'.heap[g]? = W.heap[g]?):W'.ownsRow base e size v n xs:=by
 refine⟨h.1,h.2.imp id ?_⟩;rintro⟨g,cap,cur,h1,h2,h3,h4⟩;exact⟨g,cap,cur,h1,h2,(hb g h2).trans h3,h4⟩
theorem ownsRow_set {W:World}{base b i:Nat}{e:TypeId}{size n:Nat}{v u:Value}{xs:List Value}(h:W.ownsRow base e size v n xs)(hb:b<base):(W.setCell ⟨b,i,none⟩ u).ownsRow base e size v n xs:=by
 refine⟨h.1,h.2.imp id ?_⟩;rintro⟨g,cap,cur,h1,h2,h3,h4⟩;exact⟨g,cap,cur,h1,h2,(Below.heap_setCell W ⟨b,i,none⟩ u g (by show g≠b;omega)).trans h3,h4⟩
theorem grown_below {b:Nat}{W w1:World}{v:Value}{base n size:Nat}{e:TypeId}{xs:List Value}(o:Obj)(hown:W.ownsRow base e size v n xs)(hb:b≤base)(hbW:b≤W.heap.size)(hgrow:(W.alloc o).drew.grownBy w1 v.ownBlock):Below b W w1 :=
 (((Below.refl b W).alloc hbW o).drew).grown hgrow (by simp;omega) fun k hk=>Nat.le_trans hb (hown.lt k hk).1
structure OutN (b:Nat) (n:NodeL) (l:List EntL) (vf:Value) (W:World):Prop where
 blk:W.heap[b]? = some (.cells #[.int .i64 n.kind, .int .i64 n.mode, .int .i64 n.owner, .int .i64 n.links, .int .i64 n.opn, .int .i64 n.up, .string (bs n.data),vf] 85 (0,0))
 own:W.ownsRow (b+1) 136 2 vf l.length (ents l)
theorem OutN.lt {b:Nat}{n:NodeL}{l:List EntL}{vf:Value}{W:World}(h:OutN b n l vf W):b<W.heap.size:=(Array.getElem?_eq_some_iff.1 h.blk).1
theorem OutN.put {b:Nat}{n:NodeL}{l:List EntL}{vf v':Value}{W w1:World}(h:OutN b n l vf W)(f:EntL)(o:Obj)(hgrow:(W.alloc o).drew.grownBy w1 vf.ownBlock)
 (hown1:w1.ownsRow (b+1) 136 2 v' (l.length+1) (ents l++ [.string (bs f.1), .int .i64 f.2])):OutN b n (l++ [f]) v' (w1.setCell ⟨b,7,none⟩ v'):=by
  have hlt:=h.lt;have hne:some b≠vf.ownBlock:=fun e=>by have:=(h.own.lt b e.symm).1;omega
  have h1:w1.heap[b]? = some (.cells #[.int .i64 n.kind, .int .i64 n.mode, .int .i64 n.owner, .int .i64 n.links, .int .i64 n.opn, .int .i64 n.up, .string (bs n.data),vf] 85 (0,0)):=by
   rw[hgrow.block b (by show b<(W.heap.push o).size;simp;omega) hne];exact((Below.refl W.heap.size W).alloc (Nat.le_refl _) o).block b hlt |>.trans h.blk
  refine⟨heap_set h1,ownsRow_set ?_ (Nat.lt_succ_self b)⟩;rw[List.length_append,ents_app];exact hown1
set_option maxRecDepth 100000 in
set_option maxHeartbeats 4000000 in
theorem node_any (n:NodeL)(v:Value)(w:World)(hv:RdNm w.heap.size (n,v) w)(hl:n.names.length≤10000) :
 Calls Tryz.prog 34 #[nval n v] w fun e w'=>∃v',e = .returned (nval n v')∧w'.ownsRow w.heap.size 136 2 v' n.names.length (ents n.names)∧Below w.heap.size w w':=by
 obtain⟨ao,cap,e,_,_⟩:=Rd.form hv;have e':v = .slice ao n.names.length cap:=e;subst e';obtain⟨i0,hi,hz0,hz1,hz2⟩:=info_parts infoREnt;have HV:Hid (Rd w.heap.size 2 (.slice ao n.names.length cap) n.names.length (ents n.names) w):=Lib.hid hv;clear hv e;go_enter Tryz.func34,Tryz.ntmps34;go_wp2_with fail;refine fresh3 (P:=fun W=>Code.wp _ _ _ _ W) ?_;intro W0 hb0 hP hR hO hs0;go_loopw [4] (fun i wr=>∃(k:Nat) (vf:Value),i = .int .i64 k∧k≤n.names.length∧Hid (OutN (w.heap.size+2) n (n.names.take k) vf wr)∧Below (w.heap.size+2) W0 wr) (fun i _=>n.names.length-(RowKit.intOf i).toNat)
 case atStart=>exact⟨0,_,rfl,Nat.zero_le _,Lib.hid ⟨hO,World.ownsRow_nil _ _ _ _⟩,Below.refl _ _⟩
 case round =>
  obtain⟨k,vf,rfl,hk,hON,hBr⟩:=hrel;have sB:=hBr.size;have hPr:=(hBr.block _ (by omega)).trans hP;(have p7:wr.cell? ⟨w.heap.size,7,none⟩=some (.slice ao n.names.length cap):=by rw[Lib.cell_of_heap hPr];rfl);have hBw:Below w.heap.size w wr:=hb0.trans (hBr.mono (by omega));have hbW:=hON.out.lt;(have cb1:wr.cell? ⟨w.heap.size+2,7,none⟩=some vf:=by rw[Lib.cell_of_heap hON.out.blk];rfl);have ff:wr.frozen? ⟨w.heap.size+2,7,none⟩=false:=Lib.frozen_of_heap hON.out.blk 7;by_cases hlt:k<n.names.length
  · obtain⟨b,off,cap',e,hn,hm,hb,hlen,hc⟩:=(HV.out.below hBw).at (by omega)
    injection e with e1 _ e2;subst e1;subst e2;have c0:=hc _ _ (ents_at0 n.names k hlt);have c1:wr.cell? ⟨b,off+k*2+1,none⟩=_:=hc (k*2+1) _ (ents_at1 n.names k hlt);have ht:Hid (n.names.take (k+1)=n.names.take k++ [n.names[k]]):=Lib.hid (List.take_succ_eq_append_getElem hlt);(have htl:(n.names.take k).length=k:=by rw[List.length_take];omega);have hown:=hON.out.own;(have ne1:vf.ownBlock≠some (w.heap.size+2):=fun e=>by have:=(hown.lt _ e).1;omega);(have fca : ∀o:Obj,(wr.alloc o).drew.cell? ⟨w.heap.size+2,7,none⟩=some vf:=fun o=>((Below.refl wr.heap.size wr).alloc (Nat.le_refl _) o).cell (p:=⟨w.heap.size+2,7,none⟩) hbW |>.trans cb1);(have ffa : ∀o:Obj,(wr.alloc o).drew.frozen? ⟨w.heap.size+2,7,none⟩=false:=fun o=>((Below.refl wr.heap.size wr).alloc (Nat.le_refl _) o).frozen (p:=⟨w.heap.size+2,7,none⟩) hbW |>.trans ff);generalize n.names[k]=f at *;obtain⟨fx,fz⟩:=f;have hlt':k+1≤n.names.length:=hlt;have sB':w.heap.size+2≤w.heap.size+2:=Nat.le_refl _;clear hc hP hR hO hPr hlen hn hm;go_wp2_with fail
    go_region_law
     ((refine step_append_lies _ (by rfl) _ _ _ (by rfl) (w.heap.size+2+1) 136 i0 _ 2 24 Tryz.underlying83 hi hz0 hz1 hz2 rfl (by omega) vf (n.names.take k).length (ents (n.names.take k)) (by rfl) ((hown.alloc _).drew)
        ⟨wr.heap.size,0,none⟩ 1 1 [.string (bs fx), .int .i64 fz] (by rfl) (by rfl) (World.news_of_block (cs:= #[.string (bs fx), .int .i64 fz]) (t:=136) (fr:=(0,0)) (heap_alloc_new wr _)) (by simp[Value.oneCell'])
        (by omega) (by unfold maxLen;omega) (by omega) (by simp;omega) (wr.heap.size+1) (by simp) ?_;intro gg cap w1 hown1 hgrow hat hlt;have ff1:w1.frozen? ⟨w.heap.size+2,7,none⟩=false:=(hgrow.frozen_far ⟨w.heap.size+2,7,none⟩ (by simp;omega) (Ne.symm ne1)).trans (ffa _);have fc1:w1.cell? ⟨w.heap.size+2,7,none⟩=some vf:=(hgrow.cell_far ⟨w.heap.size+2,7,none⟩ (by simp;omega) (Ne.symm ne1)).trans (fca _)))
    all_goals
     have hON':=Lib.hid (hON.out.put (fx,fz) _ hgrow (by rw[htl]at hown1 ⊢;exact hown1));have hB4:Below (w.heap.size+2) W0 w1:=hBr.trans ((grown_below _ hown (Nat.le_succ _) (Nat.le_of_lt hbW) hgrow).mono sB');rw[←ht.out]at hON';clear ff1 fc1 hgrow hat hown1 fca ffa;go_wp2_with fail;go_roundw
     case rel=>exact⟨k+1,_,by go_num,hlt',hON',hB4.setCell (p:=⟨w.heap.size+2,7,none⟩) (Nat.le_refl _) _⟩
     case measure=>simp[RowKit.intOf];omega
  · have hke:k=n.names.length:=by omega
    have HT:Hid (n.names.take k=n.names):=Lib.hid (by rw[hke,List.take_length]);(have hI2:decide (k<n.names.length)=false:=by simp;omega);have hRr:=(hBr.block _ (by omega)).trans hR;rw[HT.out]at hON;obtain⟨r0,r1,r2,r3,r4,r5,r6,r7⟩:=cells8 hRr;(have rf:=fun j=>Lib.frozen_of_heap hRr j);obtain⟨o0,o1,o2,o3,o4,o5,o6,o7⟩:=cells8 hON.out.blk;have hown:=hON.out.own;obtain⟨aov,capv,rfl⟩:=own_form hown;clear hke hlt;go_wp2_with fail;refine sets8 (P:=fun W=>bodyPost _ _ _ _ _ W) hRr ?_;intro W3 hb3 hg3 hs3 hR3;obtain⟨q0,q1,q2,q3,q4,q5,q6,q7⟩:=cells8 hR3;(have hown3:W3.ownsRow (w.heap.size+2+1) 136 2 (.slice aov n.names.length capv) n.names.length (ents n.names):=ownsRow_other hown fun g hg=>hg3 g (by omega));have hB3:Below w.heap.size w W3:=hBw.trans (hb3.mono (by omega));clear r0 r1 r2 r3 r4 r5 r6 r7 o0 o1 o2 o3 o4 o5 o6 o7 rf;(try simp only[Exit.inBlock,Exit.then]);refine bodyPost_ret (results_cell_row (p:=2) (ty:=85) rfl _ W3 (w.heap.size+1) _ _ _ _ rfl hR3 Tryz.underlying85 rfl (by kernel_rfl)) rfl ?_;exact⟨_,rfl,own_mono hown3 (by omega),hB3⟩
theorem infoRNode:(Tryz.prog.info? 85).map (fun i=>(i.zero,i.size,i.bytes))=some (some (.agg #[.int .i64 0, .int .i64 0, .int .i64 0, .int .i64 0, .int .i64 0, .int .i64 0, .string ⟨#[]⟩, .slice none 0 0]),8,88):=by kernel_rfl
structure OutD (b:Nat) (most room:Int) (ms:List NodeM) (vo:Value) (W:World):Prop where
 blk:W.heap[b]? = some (.cells #[vo, .int .i64 most, .int .i64 room] 48 (0,0))
 own:W.ownsRow (b+1) 85 8 vo ms.length (cellsN ms)
 nms : ∀m∈ms,W.ownsRow (b+1) 136 2 m.2 m.1.names.length (ents m.1.names)
theorem OutD.lt {b:Nat}{most room:Int}{ms:List NodeM}{vo:Value}{W:World}(h:OutD b most room ms vo W):b<W.heap.size:=(Array.getElem?_eq_some_iff.1 h.blk).1
theorem OutD.c0 {b:Nat}{most room:Int}{ms:List NodeM}{vo:Value}{W:World}(h:OutD b most room ms vo W):W.cell? ⟨b,0,none⟩=some vo:=(cells3 h.blk).1
theorem OutD.ca {b:Nat}{most room:Int}{ms:List NodeM}{vo:Value}{W:World}(h:OutD b most room ms vo W)(o:Obj):(W.alloc o).cell? ⟨b,0,none⟩=some vo :=
 ((Below.refl W.heap.size W).alloc (Nat.le_refl _) o).cell (p:=⟨b,0,none⟩) h.lt |>.trans h.c0
theorem OutD.fa {b:Nat}{most room:Int}{ms:List NodeM}{vo:Value}{W:World}(h:OutD b most room ms vo W)(o:Obj):(W.alloc o).frozen? ⟨b,0,none⟩=false :=
 ((Below.refl W.heap.size W).alloc (Nat.le_refl _) o).frozen (p:=⟨b,0,none⟩) h.lt |>.trans (Lib.frozen_of_heap h.blk 0)
theorem drew_below {B:Nat}{W W':World}(h:Below W.drew.heap.size W.drew W')(hB:B≤W.heap.size):Below B W W':=((Below.refl B W).drew).trans (h.mono hB)
theorem OutD.below {b:Nat}{most room:Int}{ms:List NodeM}{vo:Value}{W W':World}(h:OutD b most room ms vo W)(hb:Below W.heap.size W W'):OutD b most room ms vo W' :=
 ⟨(hb.block b h.lt).trans h.blk,ownsRow_below h.own hb (Nat.le_refl _),fun m hm=>ownsRow_below (h.nms m hm) hb (Nat.le_refl _)⟩
theorem OutD.put {b:Nat}{most room:Int}{ms:List NodeM}{vo v':Value}{W w1:World}(h:OutD b most room ms vo W)(m:NodeM)(hm:W.ownsRow (b+1) 136 2 m.2 m.1.names.length (ents m.1.names))(o:Obj)(hgrow:(W.alloc o).grownBy w1 vo.ownBlock)
 (hown1:w1.ownsRow (b+1) 85 8 v' (ms.length+1) (cellsN ms++ncells m)):OutD b most room (ms++ [m]) v' (w1.setCell ⟨b,0,none⟩ v'):=by
  have hlt:=h.lt;(have hne:vo.ownBlock≠some b:=fun e=>by have:=(h.own.lt b e).1;omega);have hba:=(Below.refl W.heap.size W).alloc (Nat.le_refl _) o;have h1:=heap_keep ((hba.block b hlt).trans h.blk) hgrow hne
  have hnm : ∀x:NodeM,W.ownsRow (b+1) 136 2 x.2 x.1.names.length (ents x.1.names)→(w1.setCell ⟨b,0,none⟩ v').ownsRow (b+1) 136 2 x.2 x.1.names.length (ents x.1.names):=fun x hx =>
   ownsRow_set (ownsRow_grown (ownsRow_below hx hba (Nat.le_refl _)) hgrow fun g hg hr=>own_ne hx h.own (by decide) g hg hr) (Nat.lt_succ_self b)
  refine⟨heap_set h1,ownsRow_set ?_ (Nat.lt_succ_self b),fun x hx=> ?_⟩
  · rw[List.length_append,cellsN_app]
    (have e:cellsN [m]=ncells m:=by simp[cellsN]);rw[e];exact hown1
  · rcases List.mem_append.1 hx with hx | hx
    · exact hnm x (h.nms x hx)
    · obtain rfl:=List.mem_singleton.1 hx
      exact hnm x hm
theorem OutD.gives {b:Nat}{most room:Int}{ms:List NodeM}{vo:Value}{W:World}(h:OutD b most room ms vo W):RdM W.heap.size vo ms W :=
 ⟨Rd.own h.own (Nat.le_refl _),fun m hm=>Rd.own (h.nms m hm) (Nat.le_refl _)⟩
end Go.Proofs.YtmiekcdkamgknaaGreatDoor
namespace Go.Proofs.YtmiekcdkamgknaaGreatDoor
open Go.RowKit Go.Shelf
attribute [local go_sem ↓] Go.wp_at_zero Go.wp_at_succ
set_option maxRecDepth 100000 in
set_option maxHeartbeats 4000000 in
theorem alike_any (a b:NodeL)(va vb:Value)(w:World)(ha:RdNm w.heap.size (a,va) w)(hb:RdNm w.heap.size (b,vb) w)(hal:a.names.length≤10000)(hbl:b.names.length≤10000) :
 Calls Tryz.prog 33 #[nval a va,nval b vb] w fun e w'=>e = .returned (.bool (decide (a=b)))∧Below w.heap.size w w':=by
 obtain⟨aoa,capa,ea,_,_⟩:=Rd.form ha;obtain⟨aob,capb,eb,_,_⟩:=Rd.form hb;have ea':va = .slice aoa a.names.length capa:=ea;have eb':vb = .slice aob b.names.length capb:=eb;subst ea' eb';have hb0:Below w.heap.size w ((w.alloc (.cells #[.int .i64 a.kind, .int .i64 a.mode, .int .i64 a.owner, .int .i64 a.links, .int .i64 a.opn, .int .i64 a.up, .string (bs a.data), .slice aoa a.names.length capa] 85)).alloc (.cells #[.int .i64 b.kind, .int .i64 b.mode, .int .i64 b.owner, .int .i64 b.links, .int .i64 b.opn, .int .i64 b.up, .string (bs b.data), .slice aob b.names.length capb] 85)):=((Below.refl _ w).alloc (Nat.le_refl _) _).alloc (by simp) _;have HA:Hid (Rd _ 2 (.slice aoa a.names.length capa) a.names.length (ents a.names) _):=Lib.hid (Rd.below ha hb0);have HB:Hid (Rd _ 2 (.slice aob b.names.length capb) b.names.length (ents b.names) _):=Lib.hid (Rd.below hb hb0);clear ea eb ha hb;by_cases h0:a.kind=b.kind
 case neg =>
  (have hI:(a.kind == b.kind)=false:=by simpa using h0);have HF:Hid (decide (a=b)=false):=Lib.hid (by rw[decide_eq_false_iff_not];intro e;exact h0 (by rw[e]));clear h0;go_enter Tryz.func33,Tryz.ntmps33;go_wp2_with fail;go_ret;exact⟨ret_bool HF.out.symm,hb0⟩
 (have g0:(a.kind == b.kind)=true:=by simpa using h0);by_cases h1:a.mode=b.mode
 case neg =>
  (have hI:(a.mode == b.mode)=false:=by simpa using h1);have HF:Hid (decide (a=b)=false):=Lib.hid (by rw[decide_eq_false_iff_not];intro e;exact h1 (by rw[e]));clear h1 h0;go_enter Tryz.func33,Tryz.ntmps33;go_wp2_with fail;go_ret;exact⟨ret_bool HF.out.symm,hb0⟩
 (have g1:(a.mode == b.mode)=true:=by simpa using h1);by_cases h2:a.owner=b.owner
 case neg =>
  (have hI:(a.owner == b.owner)=false:=by simpa using h2);have HF:Hid (decide (a=b)=false):=Lib.hid (by rw[decide_eq_false_iff_not];intro e;exact h2 (by rw[e]));clear h2 h0 h1;go_enter Tryz.func33,Tryz.ntmps33;go_wp2_with fail;go_ret;exact⟨ret_bool HF.out.symm,hb0⟩
 (have g2:(a.owner == b.owner)=true:=by simpa using h2);by_cases h3:a.links=b.links
 case neg =>
  (have hI:(a.links == b.links)=false:=by simpa using h3);have HF:Hid (decide (a=b)=false):=Lib.hid (by rw[decide_eq_false_iff_not];intro e;exact h3 (by rw[e]));clear h3 h0 h1 h2;go_enter Tryz.func33,Tryz.ntmps33;go_wp2_with fail;go_ret;exact⟨ret_bool HF.out.symm,hb0⟩
 (have g3:(a.links == b.links)=true:=by simpa using h3);by_cases h4:a.opn=b.opn
 case neg =>
  (have hI:(a.opn == b.opn)=false:=by simpa using h4);have HF:Hid (decide (a=b)=false):=Lib.hid (by rw[decide_eq_false_iff_not];intro e;exact h4 (by rw[e]));clear h4 h0 h1 h2 h3;go_enter Tryz.func33,Tryz.ntmps33;go_wp2_with fail;go_ret;exact⟨ret_bool HF.out.symm,hb0⟩
 (have g4:(a.opn == b.opn)=true:=by simpa using h4);by_cases h5:a.up=b.up
 case neg =>
  (have hI:(a.up == b.up)=false:=by simpa using h5);have HF:Hid (decide (a=b)=false):=Lib.hid (by rw[decide_eq_false_iff_not];intro e;exact h5 (by rw[e]));clear h5 h0 h1 h2 h3 h4;go_enter Tryz.func33,Tryz.ntmps33;go_wp2_with fail;go_ret;exact⟨ret_bool HF.out.symm,hb0⟩
 (have g5:(a.up == b.up)=true:=by simpa using h5);by_cases h6:a.data=b.data
 case neg =>
  (have hI:(a.data == b.data)=false:=by simpa using h6);have HF:Hid (decide (a=b)=false):=Lib.hid (by rw[decide_eq_false_iff_not];intro e;exact h6 (by rw[e]));clear h6 h0 h1 h2 h3 h4 h5;go_enter Tryz.func33,Tryz.ntmps33;go_wp2_with fail;go_ret;exact⟨ret_bool HF.out.symm,hb0⟩
 have g6:(a.data == b.data)=true:=by simpa using h6
 have HE:Hid (decide (a.names=b.names)=decide (a=b)):=Lib.hid (by
  rw[Bool.eq_iff_iff,decide_eq_true_iff,decide_eq_true_iff]
  exact⟨fun e=>node_ext h0 h1 h2 h3 h4 h5 h6 e,fun e=>by rw[e]⟩)
 clear h0 h1 h2 h3 h4 h5 h6;go_enter Tryz.func33,Tryz.ntmps33;go_wp2_with fail;refine(same_any _ _ _ a.names b.names _ HA.out HB.out (by omega) (by omega)).mono ?_;rintro e w1 ⟨rfl,n1,rfl⟩;rw[HE.out];go_wp2_with fail;go_ret;exact⟨rfl,below_drewN hb0 n1⟩
end Go.Proofs.YtmiekcdkamgknaaGreatDoor
namespace Go.Proofs.YtmiekcdkamgknaaGreatDoor
def setL (l:List NodeL)(i:Int)(n:NodeL):List NodeL:=if inL l i then l.set i.toNat n else l
def idxL:List NodeL→Nat→Int
 | [],_=> -1
 | n::l,k=>if n.kind=0 then k else idxL l (k+1)
def addNo (l:List NodeL)(most room:Int)(n:NodeL):Bool:=decide (most≤(usedL l:Int)) || decide (room<(bytesL l:Int)+(weightL n:Int))
def addI (l:List NodeL)(most room:Int)(n:NodeL):Int:=if addNo l most room n then 0 else if idxL l 0<0 then l.length else idxL l 0
def addE (l:List NodeL)(most room:Int)(n:NodeL):Int:=if addNo l most room n then 10 else 0
def addL (l:List NodeL)(most room:Int)(n:NodeL):List NodeL:=if addNo l most room n then l else if idxL l 0<0 then l++ [n]else l.set (idxL l 0).toNat n
theorem idx_cases (l:List NodeL)(k:Nat):(idxL l k = -1∧∀i (h:i<l.length),l[i].kind≠0)∨∃j,∃h:j<l.length,idxL l k=((k+j:Nat):Int)∧l[j].kind=0∧∀i (hi:i<j),(l[i]'(by omega)).kind≠0:=by
 induction l generalizing k with
 | nil=>exact .inl ⟨rfl,fun i h=>by simp at h⟩
 | cons n l ih =>
    by_cases h0:n.kind=0
    · refine .inr ⟨0,by simp,?_,h0,fun i hi=>absurd hi (Nat.not_lt_zero _)⟩
      unfold idxL;rw[if_pos h0];rfl
    · have e:idxL (n::l) k=idxL l (k+1):=by
       conv=>lhs;unfold idxL
       rw[if_neg h0]
      rw[e];rcases ih (k+1)with⟨h1,h2⟩ | ⟨j,hj,h1,h2,h3⟩
      · refine .inl ⟨h1,fun i h=> ?_⟩
        cases i with
        | zero=>exact h0
        | succ i=>exact h2 i (by simpa using h)
      · refine .inr ⟨j+1,by simpa using hj,by rw[h1];congr 1;omega,h2,fun i hi=> ?_⟩
        cases i with
        | zero=>exact h0
        | succ i=>exact h3 i (by omega)
end Go.Proofs.YtmiekcdkamgknaaGreatDoor
