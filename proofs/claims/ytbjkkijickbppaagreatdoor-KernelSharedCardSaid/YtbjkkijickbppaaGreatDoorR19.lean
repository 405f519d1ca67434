import Derived.Test.YtbjkkijickbppaaGreatDoorR18
import Derived.Test.YtbjkkijickbppaaGreatDoorR17
import Derived.Deep.AppendLies
import Derived.Deep.RegionHeld3
import Derived.BigRegion
import Derived.Test.YtbjkkijickbppaaGreatDoorR14
import Derived.Deep.DeepCutAuto
import Derived.Deep.MidRow
import Derived.StillTailTactics
import Derived.Test.YtbjkkijickbppaaGreatDoorR13
import Derived.Deep.RegionLaw
import Derived.Handy
namespace Go.Proofs.YtbjkkijickbppaaGreatDoor
structure MoreD (l l':List NodeL) (d:Int) (nm:Str) (p:Int):Prop where
 dir : ∀i,dirE l i=0→dirE l' i=0
 may : ∀who i,dirE l i=0→mayAt l' who i=mayAt l who i
 look : ∀i q,dirE l i=0→¬lookL l i q<0→lookL l' i q=lookL l i q
 node : ∀i,gotB l i=true→(nodeL l' i).kind=(nodeL l i).kind∧(nodeL l' i).data=(nodeL l i).data
 new:lookL l' d nm=p
 pos:0≤p
theorem more_go_ways {l l':List NodeL}{d:Int}{nm:Str}{p:Int}(hr:RightP l)(m:MoreD l l' d nm p)(who:Int)(sl:Bool)(h3:(nodeL l' p).kind≠3)(h2:sl=true→(nodeL l' p).kind=2) :
 ∀i ps hops,(goW l who false sl i ps hops).2=0→(goW l who false sl i ps hops).1.ino<0→(goW l who false sl i ps hops).1.dir=d→(goW l who false sl i ps hops).1.name=nm→goW l' who false sl i ps hops=(⟨d,nm,p,sl⟩,0):=by
 refine go_ind l who false sl (fun i ps hops R=>R.2=0→R.1.ino<0→R.1.dir=d→R.1.name=nm→goW l' who false sl i ps hops=(⟨d,nm,p,sl⟩,0)) ?_ ?_ ?_ ?_ ?_ ?_ ?_ ?_ ?_ ?_ ?_
 · intro i hops _ hi;exact absurd hi (show ¬(0:Int)<0 by decide)
 · intro i hops q rest hd he;exact absurd he hd
 · intro i hops q rest _ _ he;cases he
 · intro i hops q hd hm hn _ _ e1 e2
   simp only at e1 e2;subst e1 e2;have hp:=m.new;rw[go_spot (m.dir i hd) ((m.may who i hd).trans hm) (by rw[hp];have:=m.pos;omega) (by rw[hp];exact fun h=>h3 h.1) rfl (by rw[hp];exact fun h=>h.2 (h2 h.1)),hp]
 · intro i hops q rest _ _ _ _ he;cases he
 · intro i hops q rest _ _ _ _ _ _ he;cases he
 · intro i hops q rest _ _ _ _ _ _ hx he;exact absurd he hx
 · intro i hops q rest R hd hm hn hk hc h8 hx ih he hi e1 e2
   have hl:=m.look i q hd hn;obtain⟨n1,n2⟩:=m.node _ ((look_got hr hd q).2 hn);rw[go_link (m.dir i hd) ((m.may who i hd).trans hm) (by rw[hl];exact hn) (by rw[hl,n1];exact hk) hc h8 (by rw[hl,n2];exact hx),hl,n2];exact ih he hi e1 e2
 · intro i hops q _ _ _ _ _ _ he;cases he
 · intro i hops q _ _ hn _ _ _ hi;exact absurd hi hn
 · intro i hops q rest R hd hm hn hk hrest ih he hi e1 e2
   have hl:=m.look i q hd hn;obtain⟨n1,_⟩:=m.node _ ((look_got hr hd q).2 hn);rw[go_on (m.dir i hd) ((m.may who i hd).trans hm) (by rw[hl];exact hn) (by rw[hl,n1];exact hk) hrest,hl];exact ih he hi e1 e2
theorem more_walk {l l':List NodeL}{s:SpotL}{p:Int}(hr:RightP l){who fr:Int}{path:Str}(hw:walkL l who fr path false=(s,0))(hi:s.ino<0)(m:MoreD l l' s.dir s.name p)(h3:(nodeL l' p).kind≠3)(h2:s.slash=true→(nodeL l' p).kind=2) :
 walkL l' who fr path false=(⟨s.dir,s.name,p,s.slash⟩,0):=by
 unfold walkL at hw ⊢;split at hw
 · rename_i hc
   have:=congrArg Prod.snd hw;exact absurd this hc
 · rename_i hc
   rw[if_neg hc];split at hw
   · rename_i hp
     split at hw
     · rename_i hd
       have:=congrArg Prod.snd hw;exact absurd this hd
     · rename_i hd
       have e:=congrArg Prod.fst hw;simp only at e;rw[←e]at hi;have:=got_le (dir_got (Decidable.not_not.1 hd)).1;simp only at hi;omega
   · rename_i hp
     rw[if_neg hp]
     have hsl:s.slash=Lib.hasSuffix path [47]:=by
      have : ∀i ps hops,(goW l who false (Lib.hasSuffix path [47]) i ps hops).2=0→(goW l who false (Lib.hasSuffix path [47]) i ps hops).1.slash=Lib.hasSuffix path [47]:=by
       refine go_ind l who false _ (fun i ps hops R=>R.2=0→R.1.slash=Lib.hasSuffix path [47]) ?_ ?_ ?_ ?_ ?_ ?_ ?_ ?_ ?_ ?_ ?_
       · intro i hops _;rfl
       · intro i hops q rest hd he;exact absurd he hd
       · intro i hops q rest _ _ he;cases he
       · intro i hops q _ _ _ _;rfl
       · intro i hops q rest _ _ _ _ he;cases he
       · intro i hops q rest _ _ _ _ _ _ he;cases he
       · intro i hops q rest _ _ _ _ _ _ hx he;exact absurd he hx
       · intro i hops q rest R _ _ _ _ _ _ _ ih;exact ih
       · intro i hops q _ _ _ _ _ _ he;cases he
       · intro i hops q _ _ _ _ _ _;rfl
       · intro i hops q rest R _ _ _ _ _ ih;exact ih
      have h1:=this (firstAt fr path) (parts path) 0;rw[hw]at h1;exact h1 rfl
     have h1:=more_go_ways hr m who (Lib.hasSuffix path [47]) h3 (by rw[←hsl];exact h2) (firstAt fr path) (parts path) 0;rw[hw]at h1;rw[h1 rfl hi rfl rfl,hsl]
theorem dirE_nd {l:List NodeL}{k:Nat}:dirE l k=0↔(nd l k).kind=2:=by
 constructor
 · intro h
   obtain⟨hg,hk⟩:=dir_got h;rw[nodeL_nd ((got_nd l k).1 hg)]at hk;exact hk
 · intro h
   (have h0:(nd l k).kind≠0:=by rw[h];decide);exact got_dir ((got_nd l k).2 h0) (by rw[nodeL_nd h0];exact h)
theorem dir_nat {l:List NodeL}{i:Int}(h:dirE l i=0) : ∃k:Nat,i=k∧(nd l k).kind=2:=by
 obtain⟨k,e,_,_⟩:=got_nat (dir_got h).1;subst e;exact⟨k,rfl,dirE_nd.1 h⟩
theorem enter_moreD {l l':List NodeL}{d p:Nat}{nm:Nm}{n:NodeL}(hR:Rig l)(hk:(nd l d).kind=2)(hpd:p≠d)(hpk:(nd l p).kind=0)(hl:legalL nm=0)(hf:findL (nd l d).names nm=none)(hnd : ∀j,nd l' j=if j=d then putN (nd l d) nm p else if j=p then n else nd l j) :
 MoreD l l' d nm p:=by
 have hs:=(Rig.sorted hR d).2
 have h0 : ∀j:Nat,(nd l j).kind≠0→(nd l' j).kind=(nd l j).kind∧(nd l' j).data=(nd l j).data∧(nd l' j).mode=(nd l j).mode∧(nd l' j).owner=(nd l j).owner∧(nd l' j).up=(nd l j).up:=fun j hj=>by
  rw[hnd];split
  · rename_i e;subst e;exact⟨rfl,rfl,rfl,rfl,rfl⟩
  · rw[if_neg (by rintro rfl;exact hj hpk)];exact⟨rfl,rfl,rfl,rfl,rfl⟩
 have hdd:nm≠ [46]∧nm≠ [46,46]:=by
  constructor
  · rintro rfl;exact absurd hl (by decide)
  · rintro rfl;exact absurd hl (by decide)
 (have hnl : ∀j:Nat,(nd l j).kind≠0→nodeL l' j=nd l' j:=fun j hj=>nodeL_nd (by rw[(h0 j hj).1];exact hj));(have hkd:(nd l d).kind≠0:=by rw[hk];decide);refine⟨fun i hi=> ?_,fun who i hi=> ?_,fun i q hi hq=> ?_,fun i hi=> ?_,?_,by omega⟩
 · obtain⟨k,rfl,hk2⟩:=dir_nat hi
   exact dirE_nd.2 ((h0 k (by rw[hk2];decide)).1.trans hk2)
 · obtain⟨k,rfl,hk2⟩:=dir_nat hi
   (have hk0:(nd l k).kind≠0:=by rw[hk2];decide);obtain⟨_,_,a,b,_⟩:=h0 k hk0;unfold mayAt;rw[hnl k hk0,nodeL_nd hk0,a,b]
 · obtain⟨k,rfl,hk2⟩:=dir_nat hi
   (have hk0:(nd l k).kind≠0:=by rw[hk2];decide);unfold lookL at hq ⊢;rw[hnl k hk0];rw[nodeL_nd hk0]at hq ⊢;rw[(h0 k hk0).2.2.2.2];split
   · rfl
   · rename_i q1
     rw[if_neg q1]at hq;split
     · rfl
     · rename_i q2
       rw[if_neg q2]at hq;rw[hnd];split
       · rename_i e
         subst e
         have hqn:q≠nm:=by
          rintro rfl;rw[hf]at hq;exact hq (show(-1:Int)<0 by decide)
         show(findL (putL (nd l k).names (nm,(p:Int))) q).getD (-1)=_;rw[find_put_other hs _ _ _ hqn]
       · rw[if_neg (by rintro rfl;exact hk0 hpk)]
 · obtain⟨k,rfl,_,hk0⟩:=got_nat hi
   rw[hnl k hk0,nodeL_nd hk0];exact⟨(h0 k hk0).1,(h0 k hk0).2.1⟩
 · unfold lookL
   rw[if_neg hdd.1,if_neg hdd.2,hnl d hkd,hnd,if_pos rfl];show(findL (putL (nd l d).names (nm,(p:Int))) nm).getD (-1)=p;rw[find_put];rfl
structure Entered (l l':List NodeL) (who fr:Int) (path:Str) (s:SpotL) (d p:Nat) (n:NodeL):Prop where
 sd:s.dir=d
 dk:(nd l d).kind=2
 p0:p≠0
 pd:p≠d
 pk:(nd l p).kind=0
 leg:legalL s.name=0
 fn:findL (nd l d).names s.name=none
 si:s.ino = -1
 nds : ∀j,nd l' j=if j=d then putN (nd l d) s.name p else if j=p then n else nd l j
 rig:Rig l'
 walk:walkL l' who fr path false=(⟨s.dir,s.name,p,s.slash⟩,0)
 wr:writesL l who d=true
 len:l.length≤l'.length∧l'.length≤l.length+1
theorem entered_of {l:List NodeL}{most room who fr:Int}(h:rightR l most room=true){path:Str}{s:SpotL}(hw:walkL l who fr path false=(s,0)){n:NodeL}(hnk:n.kind=1∨n.kind=2)(hn:LocOk (ownN n who))(hnm:n.names = [])(hup:n.kind=2→n.up=s.dir)(hsl:s.slash=true→n.kind=2)
 (hE:(enterL l most room who s n).2.2=0) : ∃d p:Nat,Entered l (enterL l most room who s n).1 who fr path s d p (ownN n who)∧(enterL l most room who s n).2.1=p:=by
  have hr:=right_RP h;obtain⟨hR,_⟩:=Rig.of hr
  have hs:SpotW l s:=by
   have:=walk_spot hr (who:=who) (fr:=fr) (p:=path) (f:=false) (by rw[hw]);rw[hw]at this;exact this
  have hnk0:n.kind≠0:=by omega
  have hF:freeE l who s=0:=by
   (refine Decidable.byContradiction fun hF=> ?_);unfold enterL at hE;rw[if_pos hF]at hE;exact hF hE
  have hA:addE l most room (ownN n who)=0:=by
   (refine Decidable.byContradiction fun hA=> ?_);unfold enterL at hE;rw[if_neg (by rw[hF];simp),if_pos hA]at hE;exact hA hE
  obtain⟨d,p,hd,hk,_,hp0,hpd,hpk,hleg,hfn,hino,hnd,hRig,heq,⟨l1,l2,_⟩,_⟩:=enter_rig hr hs hnk0 hn hnm hup hF hA;have hm:=enter_moreD hR hk hpd hpk hleg hfn hnd
  have hpn:nodeL (enterL l most room who s n).1 p=ownN n who:=by
   rw[nodeL_nd (by rw[hnd,if_neg hpd,if_pos rfl];exact hnk0),hnd,if_neg hpd,if_pos rfl]
  (have hkn:(nodeL (enterL l most room who s n).1 p).kind=n.kind:=by rw[hpn];rfl);have hw':=more_walk hr hw (by omega) (l':=(enterL l most room who s n).1) (p:=p) (by rw[hd];exact hm) (by rw[hkn];omega) (by rw[hkn];exact hsl)
  have hwr:writesL l who d=true:=by
   unfold freeE at hF;rw[if_neg (by omega),hd]at hF;split at hF
   · cases hF
   · split at hF
     · cases hF
     · rename_i hc;exact Bool.not_eq_false _▸hc
  exact⟨d,p,⟨hd,hk,hp0,hpd,hpk,hleg,hfn,hino,hnd,hRig,hw',hwr,⟨l1,l2⟩⟩,by rw[heq]⟩
end Go.Proofs.YtbjkkijickbppaaGreatDoor
namespace Go.Proofs.YtbjkkijickbppaaGreatDoor
def Siz (a c:Nat)(l:List NodeL):Prop:=l.length≤a∧∀n∈l,n.data.length≤2000∧n.names.length≤c
theorem Siz.mono {a c a' c':Nat}{l:List NodeL}(h:Siz a c l)(ha:a≤a')(hc:c≤c'):Siz a' c' l :=
 ⟨Nat.le_trans h.1 ha,fun n hn=>⟨(h.2 n hn).1,Nat.le_trans (h.2 n hn).2 hc⟩⟩
theorem Siz.set {a c:Nat}{l:List NodeL}(h:Siz a c l){n:NodeL}(hn:n.data.length≤2000∧n.names.length≤c)(i:Int):Siz a c (setL l i n):=by
 unfold setL;split
 · refine⟨by rw[List.length_set];exact h.1,fun m hm=> ?_⟩
   rcases List.mem_or_eq_of_mem_set hm with hm | rfl
   · exact h.2 m hm
   · exact hn
 · exact h
theorem Siz.node {a c:Nat}{l:List NodeL}(h:Siz a c l)(i:Int):(nodeL l i).data.length≤2000∧(nodeL l i).names.length≤c:=by
 unfold nodeL;split
 · rename_i hg
   obtain⟨k,rfl,hlt,_⟩:=got_nat hg;rw[at_nd,nd_lt hlt];exact h.2 _ (List.getElem_mem hlt)
 · exact⟨Nat.zero_le _,Nat.zero_le _⟩
theorem Siz.named {a c:Nat}{l:List NodeL}(h:Siz a c l)(s:SpotL)(i:Int):Siz a (2*c+1) (namedL l s i):=by
 have h0:Siz a (2*c+1) l:=h.mono (Nat.le_refl _) (by omega);refine h0.set (n:=putN (nodeL l s.dir) s.name i) ⟨(h.node s.dir).1,?_⟩ s.dir;have h1:=put_len (nodeL l s.dir).names (s.name,i);have h2:=(h.node s.dir).2;show(putL (nodeL l s.dir).names (s.name,i)).length≤_;omega
theorem Siz.dropped {a c:Nat}{l:List NodeL}(h:Siz a c l)(s:SpotL):Siz a c (droppedL l s) :=
 h.set (n:=dropN (nodeL l s.dir) s.name) ⟨(h.node s.dir).1,Nat.le_trans (List.length_filter_le _ _) (h.node s.dir).2⟩ s.dir
theorem Siz.settle {a c:Nat}{l:List NodeL}(h:Siz a c l)(i:Int):Siz a c (settleL l i):=by
 unfold settleL;split
 · exact h.set ⟨Nat.zero_le _,Nat.zero_le _⟩ i
 · exact h
theorem Siz.lost {a c:Nat}{l:List NodeL}(h:Siz a c l)(s:SpotL):Siz a c (lostL l s) :=
 ((h.dropped s).set (n:=lessN (nodeL (droppedL l s) s.ino)) ((h.dropped s).node s.ino) s.ino).settle s.ino
theorem Siz.add {a c:Nat}{l:List NodeL}(h:Siz a c l){n:NodeL}(hn:n.data.length≤2000∧n.names.length≤c)(most room:Int):Siz (a+1) c (addL l most room n):=by
 unfold addL;split
 · exact h.mono (Nat.le_succ a) (Nat.le_refl c)
 · split
   · refine⟨by rw[List.length_append,List.length_singleton];have:=h.1;omega,fun m hm=> ?_⟩
     rcases List.mem_append.1 hm with hm | hm
     · exact h.2 m hm
     · obtain rfl:=List.mem_singleton.1 hm
       exact hn
   · refine⟨by rw[List.length_set];have:=h.1;omega,fun m hm=> ?_⟩
     rcases List.mem_or_eq_of_mem_set hm with hm | rfl
     · exact h.2 m hm
     · exact hn
theorem Siz.enter {a c:Nat}{l:List NodeL}(h:Siz a c l){n:NodeL}(hn:n.data.length≤2000∧n.names.length≤c)(most room who:Int)(s:SpotL):Siz (a+1) (2*c+1) (enterL l most room who s n).1:=by
 unfold enterL;split
 · exact h.mono (by omega) (by omega)
 · split
   · exact h.mono (by omega) (by omega)
   · exact(h.add (n:=ownN n who) hn most room).named s _
end Go.Proofs.YtbjkkijickbppaaGreatDoor
namespace Go.Proofs.YtbjkkijickbppaaGreatDoor
open Go.RowKit Go.Shelf
attribute [local go_sem ↓] Go.wp_at_zero Go.wp_at_succ
theorem one_g {X:Nat→Prop}{w:World}{l:List NodeL}{v:Value}(hg:GivesX X l v w) : ∀x∈ [(l,v)],GivesX X x.1 x.2 w:=fun x hx=>by rw[List.mem_singleton]at hx;subst hx;exact hg
theorem no_n {X:Nat→Prop}{w:World} : ∀x∈([]:List (NodeL × Value)),NodeX X x.1 x.2 w:=fun _ h=>by cases h
end Go.Proofs.YtbjkkijickbppaaGreatDoor
namespace Go.Proofs.YtbjkkijickbppaaGreatDoor
open Go.RowKit Go.Shelf
attribute [local go_sem ↓] Go.wp_at_zero Go.wp_at_succ
theorem getc (X:Nat→Prop)(l:List NodeL)(most room i:Int)(v:Value)(W:World)(hX:Old X W)(hg:GivesX X l v W)(hl:l.length≤10000)(hnl : ∀n∈l,n.names.length≤10000) :
 Calls Tryz.prog 53 #[.agg #[v, .int .i64 most, .int .i64 room], .int .i64 i] W fun e w'=>∃ao cap,e = .returned (.tuple #[nval (getL l i) (.slice ao (getL l i).names.length cap), .bool (gotB l i)])∧NodeX X (getL l i) (.slice ao (getL l i).names.length cap) w'∧Below W.heap.size W w':=by
 obtain⟨m,rfl,h,ha⟩:=hg;refine(get_new v m most room i W h (by rw[←pl_len];exact hl) hnl).mono ?_;rintro e w' ⟨v1,rfl,hr,hb,hnew⟩
 have hN:NodeX X (getL (pl m) i) v1 w':=⟨hr,fun g hx=>by
  rintro a n c rfl _ e;have h1:W.heap.size≤a.block:=hnew a.block rfl;have h2:=hX g hx
  omega⟩
 obtain⟨ao,cap,rfl⟩:=node_form hN;exact⟨ao,cap,rfl,hN,hb⟩
end Go.Proofs.YtbjkkijickbppaaGreatDoor
namespace Go.Proofs.YtbjkkijickbppaaGreatDoor
open Go.RowKit Go.Shelf
attribute [local go_sem ↓] Go.wp_at_zero Go.wp_at_succ
structure Sn (w:World) (B:List Bl) (G:List (List NodeL × Value)) (N:List (NodeL × Value)) (W:World):Prop where
 bel:Below w.heap.size w W
 blk : ∀x∈B,W.heap[x.1]? = some (.cells x.2.1 x.2.2 (0,0))
 gv : ∀x∈G,GivesN x.1 x.2 W
 nv : ∀x∈N,RdNm W.heap.size (x.1,x.2) W
theorem gives_no {l:List NodeL}{v:Value}{W:World}(h:GivesN l v W):GivesX (fun _=>False) l v W:=by
 obtain⟨m,a,b⟩:=h;exact⟨m,a,b,fun g hg=>hg.elim⟩
theorem old_no {W:World}:Old (fun _=>False) W:=fun _ h=>h.elim
section
variable {w W W':World} {B:List Bl} {G:List (List NodeL × Value)} {N:List (NodeL × Value)}
theorem Sn.start {l:List NodeL}{v:Value}(hG:GivesN l v w):Sn w [] [(l,v)] [] w:=⟨Below.refl _ _,(fun _ h=>by cases h),(fun x hx=>by rw[List.mem_singleton]at hx;subst hx;exact hG),(fun _ h=>by cases h)⟩
theorem Sn.none:Sn w [] [] [] w:=⟨Below.refl _ _,(fun _ h=>by cases h),(fun _ h=>by cases h),(fun _ h=>by cases h)⟩
theorem Sn.lt (h:Sn w B G N W){x:Bl}(hx:x∈B):x.1<W.heap.size:=(Array.getElem?_eq_some_iff.1 (h.blk x hx)).1
theorem Sn.call (h:Sn w B G N W)(hb:Below W.heap.size W W'):Sn w B G N W' :=
 ⟨ret_tr h.bel hb,fun x hx=>(hb.block _ (h.lt hx)).trans (h.blk x hx),fun x hx=>(h.gv x hx).keep hb,fun x hx=>rdnm_keep (h.nv x hx) hb⟩
theorem Sn.news (h:Sn w B G N W)(hb:Below W.heap.size W W')(C:List Bl)(hC : ∀x∈C,W'.heap[x.1]? = some (.cells x.2.1 x.2.2 (0,0))):Sn w (B++C) G N W' :=
 ⟨ret_tr h.bel hb,fun x hx=>by
  rcases List.mem_append.1 hx with hx | hx
  · exact(hb.block _ (h.lt hx)).trans (h.blk x hx)
  · exact hC x hx,fun x hx=>(h.gv x hx).keep hb,fun x hx=>rdnm_keep (h.nv x hx) hb⟩
theorem Sn.new1 (h:Sn w B G N W)(hb:Below W.heap.size W W'){cs0:Array Value}{t0:TypeId}(h0:W'.heap[W.heap.size]? = some (.cells cs0 t0 (0,0))):Sn w (B++ [(W.heap.size,cs0,t0)]) G N W' :=
 h.news hb _ (fun x hx=>by
  simp only[List.mem_cons,List.not_mem_nil,or_false]at hx;subst hx
  exact h0)
theorem Sn.new2 (h:Sn w B G N W)(hb:Below W.heap.size W W'){cs0 cs1:Array Value}{t0 t1:TypeId}(h0:W'.heap[W.heap.size]? = some (.cells cs0 t0 (0,0)))(h1:W'.heap[W.heap.size+1]? = some (.cells cs1 t1 (0,0))):Sn w (B++ [(W.heap.size,cs0,t0),(W.heap.size+1,cs1,t1)]) G N W' :=
 h.news hb _ (fun x hx=>by
  simp only[List.mem_cons,List.not_mem_nil,or_false]at hx;rcases hx with rfl | rfl
  · exact h0
  · exact h1)
theorem Sn.new3 (h:Sn w B G N W)(hb:Below W.heap.size W W'){cs0 cs1 cs2:Array Value}{t0 t1 t2:TypeId}(h0:W'.heap[W.heap.size]? = some (.cells cs0 t0 (0,0)))(h1:W'.heap[W.heap.size+1]? = some (.cells cs1 t1 (0,0)))(h2:W'.heap[W.heap.size+2]? = some (.cells cs2 t2 (0,0))):Sn w (B++ [(W.heap.size,cs0,t0),(W.heap.size+1,cs1,t1),(W.heap.size+2,cs2,t2)]) G N W' :=
 h.news hb _ (fun x hx=>by
  simp only[List.mem_cons,List.not_mem_nil,or_false]at hx;rcases hx with rfl | rfl | rfl
  · exact h0
  · exact h1
  · exact h2)
theorem Sn.at (h:Sn w B G N W)(k:Nat){b:Nat}{cs:Array Value}{t:TypeId}(hk:B[k]? = some (b,cs,t)):W.heap[b]? = some (.cells cs t (0,0)):=h.blk _ (List.mem_of_getElem? hk)
theorem Sn.at' (h:Sn w B G N W)(hb:Below W.heap.size W W')(k:Nat){b:Nat}{cs:Array Value}{t:TypeId}(hk:B[k]? = some (b,cs,t)):W'.heap[b]? = some (.cells cs t (0,0)):=(h.call hb).at k hk
theorem Sn.addN (h:Sn w B G N W){n:NodeL}{v:Value}(hn:RdNm W.heap.size (n,v) W):Sn w B G (N++ [(n,v)]) W :=
 ⟨h.bel,h.blk,h.gv,fun x hx=>by
  rcases List.mem_append.1 hx with hx | hx
  · exact h.nv x hx
  · rw[List.mem_singleton]at hx;subst hx;exact hn⟩
theorem Sn.g (h:Sn w B G N W)(k:Nat){l:List NodeL}{v:Value}(hk:G[k]? = some (l,v)):GivesN l v W:=h.gv _ (List.mem_of_getElem? hk)
theorem Sn.n (h:Sn w B G N W)(k:Nat){n:NodeL}{v:Value}(hk:N[k]? = some (n,v)):RdNm W.heap.size (n,v) W:=h.nv _ (List.mem_of_getElem? hk)
theorem Sn.st (h:Sn w B G N W):St (fun _=>False) W [] G [] W:=St.start old_no (fun x hx=>gives_no (h.gv x hx)) (fun _ h=>by cases h)
theorem Sn.of {X:Nat→Prop}{C:List Bl}{G':List (List NodeL × Value)}(h:Sn w B G N W)(t:St X W C G' [] W'):Sn w (B++C) G' N W' :=
 ⟨ret_tr h.bel t.bel,fun x hx=>by
  rcases List.mem_append.1 hx with hx | hx
  · exact(t.bel.block _ (h.lt hx)).trans (h.blk x hx)
  · exact(t.blk x hx).1,fun x hx=>(t.gv x hx).gives,fun x hx=>rdnm_keep (h.nv x hx) t.bel⟩
end
open Go.Lib in
set_option maxRecDepth 100000 in
set_option maxHeartbeats 4000000 in
theorem its_x (v:Value)(ms:List NodeM)(most room:Int)(w:World)(hv:RdM w.heap.size v ms w)(hl:ms.length≤10000)(hnl : ∀n∈pl ms,n.names.length≤10000) :
 Calls Tryz.prog 19 #[.agg #[v, .int .i64 most, .int .i64 room]] w fun e w'=>∃v',e = .returned (.agg #[v', .int .i64 most, .int .i64 room])∧GivesX (fun g=>g<w.heap.size) (pl ms) v' w'∧Below w.heap.size w w':=by
 obtain⟨ao,cap,rfl,_,_⟩:=rdm_form hv;obtain⟨i0,hi,hz0,hz1,hz2⟩:=info_parts infoRNode;have HV:=Lib.hid hv;have HNL:=Lib.hid hnl;clear hv hnl;go_enter Tryz.func19,Tryz.ntmps19;go_wp2_with fail;refine fresh3 (P:=fun W=>Code.wp _ _ _ _ W) ?_;intro W0 hb0 hP hR hO hs0;go_loopw [4] (fun i wr=>∃(k:Nat) (vo:Value) (mo:List NodeM),i = .int .i64 k∧k≤ms.length∧Hid (pl mo=(pl ms).take k)∧Hid (OutD (w.heap.size+2) most room mo vo wr)∧Below (w.heap.size+2) W0 wr) (fun i _=>ms.length-(RowKit.intOf i).toNat)
 case atStart=>exact⟨0,_,[],rfl,Nat.zero_le _,Lib.hid rfl,Lib.hid ⟨hO,World.ownsRow_nil _ _ _ _,fun m hm=>by cases hm⟩,Below.refl _ _⟩
 case round =>
  obtain⟨k,vo,mo,rfl,hk,hmo,hOD,hBr⟩:=hrel;have sB:=hBr.size;have hPr:=(hBr.block _ (by omega)).trans hP;obtain⟨p0,p1,p2⟩:=cells3 hPr;have hBw:Below w.heap.size w wr:=hb0.trans (hBr.mono (by omega));have hbW:=hOD.out.lt;(have hml:mo.length=k:=by rw[←pl_len,hmo.out,List.length_take,pl_len];omega);by_cases hlt:k<ms.length
  · obtain⟨b,off,n,aon,capn,rfl,hb,hn,hmk,hrn,c0,c1,c2,c3,c4,c5,c6,c7⟩:=node_at (HV.out.below hBw) k hlt
    have hnn:n.names.length≤10000:=HNL.out n (by rw[←hn];exact List.getElem_mem _);have ht:Hid ((pl ms).take (k+1)=pl mo++ [n]):=Lib.hid (by rw[hmo.out,←hn];exact List.take_succ_eq_append_getElem (by rw[pl_len];exact hlt));(have ne1:vo.ownBlock≠some (w.heap.size+2):=fun e=>by have:=(hOD.out.own.lt _ e).1;omega);have HNR:Hid (RdNm wr.heap.size (n, .slice aon n.names.length capn) wr.drew):=Lib.hid (Rd.mono (show Rd w.heap.size 2 _ _ _ wr.drew from hrn) hBw.size);(have cb1:wr.cell? ⟨w.heap.size+2,0,none⟩=some vo:=by rw[Lib.cell_of_heap hOD.out.blk];rfl);have hod:OutD (w.heap.size+2) most room mo vo wr.drew:=hOD.out.below ((Below.refl _ _).drew);have HODD:=Lib.hid hod;clear hP hR hO hPr hn hmk hrn hod;go_wp2_with fail
    go_region_law
     (first
       | (go_simp;go_at_call 31;with_reducible refine(node_any n (.slice aon n.names.length capn) _ HNR.out hnn).mono ?_;rintro e w1 ⟨vn,rfl,hownN,hbN⟩;have hD1:=HODD.out.below hbN;have hlt1:=hD1.lt;have hownD:=hD1.own;have oneN : ∀u∈ncells (n,vn),u.oneCell'=true:=ncells_one hownN;have hownN':=own_mono hownN hbW;have belowN:=drew_below hbN (Nat.le_of_lt hbW);have hbD:w.heap.size+2+1≤(w1.alloc (.cells #[.int .i64 n.kind, .int .i64 n.mode, .int .i64 n.owner, .int .i64 n.links, .int .i64 n.opn, .int .i64 n.up, .string (bs n.data),vn] 76)).heap.size:=(by have:=hD1.lt;simp;omega);have fc1:w1.cell? ⟨w.heap.size+2,0,none⟩=some vo:=hD1.c0;have fcD:=hD1.ca;have ffD:=hD1.fa)
       | (refine step_append_lies _ (by rfl) _ _ _ (by rfl) (w.heap.size+2+1) 76 i0 _ 8 88 Tryz.underlying46 hi hz0 hz1 hz2 rfl (by omega) vo mo.length (cellsN mo) (by rfl) (hownD.alloc _)
           ⟨w1.heap.size,0,none⟩ 1 1 (ncells (n,vn)) (by rfl) (by rfl) (World.news_of_block (cs:= #[.int .i64 n.kind, .int .i64 n.mode, .int .i64 n.owner, .int .i64 n.links, .int .i64 n.opn, .int .i64 n.up, .string (bs n.data),vn]) (t:=76) (fr:=(0,0)) (heap_alloc_new w1 _)) oneN
           (by omega) (by unfold maxLen;omega) (by omega) hbD (w1.heap.size+1) (by simp) ?_;intro gg cap w2 hown2 hgrow hat hlt2;have ff2:w2.frozen? ⟨w.heap.size+2,0,none⟩=false:=(hgrow.frozen_far ⟨w.heap.size+2,0,none⟩ (by simp;omega) (Ne.symm ne1)).trans (ffD _);have fc2:w2.cell? ⟨w.heap.size+2,0,none⟩=some vo:=(hgrow.cell_far ⟨w.heap.size+2,0,none⟩ (by simp;omega) (Ne.symm ne1)).trans (fcD _)))
    all_goals
     have hON':=Lib.hid (hD1.put (n,vn) hownN' _ hgrow hown2);have hB4:Below (w.heap.size+2) W0 w2:=hBr.trans (belowN.trans (((Below.refl (w.heap.size+2) w1).alloc (Nat.le_of_lt hlt1) _).grown hgrow (by simp;omega) (fun g hg=>Nat.le_trans (Nat.le_succ _) (hownD.lt g hg).1)));clear ff2 fc2 hgrow hat hown2 fc1 fcD ffD;go_wp2_with fail;go_roundw
     case rel=>exact⟨k+1,_,mo++ [(n,vn)],by go_num,hlt,Lib.hid (by rw[ht.out];simp[pl]),hml▸hON',hB4.setCell (p:=⟨w.heap.size+2,0,none⟩) (Nat.le_refl _) _⟩
     case measure=>simp[RowKit.intOf];omega
  · have hke:k=ms.length:=by omega
    have HT:Hid (pl mo=pl ms):=Lib.hid (by rw[hmo.out,hke,←pl_len,List.take_length]);(have hI2:decide (k<ms.length)=false:=by simp;omega);have hRr:=(hBr.block _ (by omega)).trans hR;obtain⟨r0,r1,r2⟩:=cells3 hRr;(have rf:=fun j=>Lib.frozen_of_heap hRr j);obtain⟨o0,o1,o2⟩:=cells3 hOD.out.blk;obtain⟨aov,capv,rfl⟩:=own_form hOD.out.own;clear hke hlt;go_wp2_with fail;refine sets3 (P:=fun W=>bodyPost _ _ _ _ _ W) hRr ?_;intro W3 hb3 hg3 hs3 hR3;have hown3:RdM W3.heap.size (.slice aov mo.length capv) mo W3:=⟨Rd.own (ownsRow_other hOD.out.own fun g hg=>hg3 g (by omega)) (Nat.le_refl _),fun m hm=>Rd.own (ownsRow_other (hOD.out.nms m hm) fun g hg=>hg3 g (by omega)) (Nat.le_refl _)⟩;have hB3:Below w.heap.size w W3:=hBw.trans (hb3.mono (by omega));(have hav : ∀g,g<w.heap.size→AvoidM g (.slice aov mo.length capv) mo:=fun g hg=>⟨own_far hOD.out.own (by omega),fun m hm=>own_far (hOD.out.nms m hm) (by omega)⟩);rw[hml]at hown3 hav;clear r0 r1 r2 o0 o1 o2 rf;(try simp only[Exit.inBlock,Exit.then]);refine bodyPost_ret (results_cell_row (p:=2) (ty:=48) rfl _ W3 (w.heap.size+1) _ _ _ _ rfl hR3 Tryz.underlying48 rfl (by kernel_rfl)) rfl ?_;exact⟨_,rfl,⟨mo,HT.out,hown3,hav⟩,hB3⟩
theorem its_y (X:Nat→Prop)(l:List NodeL)(a b:Int)(hl:l.length≤10000)(hnl : ∀n∈l,n.names.length≤10000)(v:Value)(W:World)(hX:Old X W)(hg:GivesN l v W) :
 Calls Tryz.prog 19 #[.agg #[v, .int .i64 a, .int .i64 b]] W fun e w'=>∃ao cap,e = .returned (diskV ao l.length cap a b)∧GivesX X l (.slice ao l.length cap) w'∧Below W.heap.size W w':=by
 obtain⟨m,rfl,h⟩:=hg;refine(its_x v m a b W h (by rw[←pl_len];exact hl) hnl).mono ?_;rintro e w' ⟨v',rfl,h1,h2⟩;(have h3:=h1.sub (Y:=X) fun g hg=>hX g hg);obtain⟨ao,cap,rfl⟩:=gives_form h3;exact⟨ao,cap,rfl,h3,h2⟩
end Go.Proofs.YtbjkkijickbppaaGreatDoor
