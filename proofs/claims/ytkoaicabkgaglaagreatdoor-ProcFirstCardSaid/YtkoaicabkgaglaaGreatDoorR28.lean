import Derived.Test.YtkoaicabkgaglaaGreatDoorR23
import Derived.Test.YtkoaicabkgaglaaGreatDoorR19
import Derived.Test.YtkoaicabkgaglaaGreatDoorR22
import Derived.Test.YtkoaicabkgaglaaGreatDoorR24
import Derived.Lib.LaidTab
import Derived.Lib.ItoaNum
import Derived.Test.YtkoaicabkgaglaaGreatDoorR18
import Derived.Deep.RegionHeld3
import Derived.Test.YtkoaicabkgaglaaGreatDoorR20
namespace Go.Proofs.YtkoaicabkgaglaaGreatDoor
def LikeD (x y:DescL):Prop:=x.ino=y.ino∧x.rd=y.rd∧x.wr=y.wr
def OwnT2 (t t':TabL)(q:Int):Prop:=∀m:Int,hasT t' q m=hasT t q m∧placeT t' q m=placeT t q m∧LikeD (foundT t' q m) (foundT t q m)
theorem OwnT2.rfl' (t:TabL)(q:Int):OwnT2 t t q:=fun _=>⟨rfl,rfl,rfl,rfl,rfl⟩
def Owns (k k':KernL)(q:Int):Prop:=k'.ps.length=k.ps.length∧(∀a:Nat,q=a→k'.ps[a]? = k.ps[a]?)∧OwnT2 k.t k'.t q
theorem Owns.rfl' (k:KernL)(q:Int):Owns k k q:=⟨rfl,fun _ _=>rfl,OwnT2.rfl' _ _⟩
end Go.Proofs.YtkoaicabkgaglaaGreatDoor
namespace Go.Proofs.YtkoaicabkgaglaaGreatDoor
structure OpenW (k:KernL) (p fr:Int) (c:CallL) (l:List NodeL) (i:Nat):Prop where
 live:liveB k.ps p=true
 cnt:countT k.t p≠8
 base:baseK k p c.fd=(fr,0)
 eq:doK k p c=(⟨openedL l i 1,k.most,k.room,(openT k.t p (newD c.flags i)).1,k.ps⟩,numR (openT k.t p (newD c.flags i)).2.1)
 kind:(nd l i).kind≠0
 rig:RigK (withD k l)
 way:(∃(s:SpotL) (d:Nat),hasF c.flags 4=true∧walkL k.l (procL k.ps p).who fr c.path false=(s,0)∧Entered k.l l (procL k.ps p).who fr c.path s d i (ownN (fileN (maskI c.mode (procL k.ps p).umask)) (procL k.ps p).who))
  ∨ ((walkL k.l (procL k.ps p).who fr c.path (followB c.flags)).2=0∧(walkL k.l (procL k.ps p).who fr c.path (followB c.flags)).1.ino=i∧(nd k.l i).kind≠0∧fitE (nd k.l i) (procL k.ps p).who c.flags (onlyB c.flags)=0
   ∧ l=(fitL k.l k.room (procL k.ps p).who i c.flags (onlyB c.flags)).1∧(fitL k.l k.room (procL k.ps p).who i c.flags (onlyB c.flags)).2=0)
theorem OpenW.after {k:KernL}(h:RigK k){p fr:Int}{c:CallL}{l:List NodeL}{i:Nat}(w:OpenW k p fr c l i):hasT (doK k p c).1.t p (doK k p c).2.n=true∧foundT (doK k p c).1.t p (doK k p c).2.n = { newD c.flags i with refs:=1}∧SameW l (doK k p c).1.l
 ∧ (nd (doK k p c).1.l i).kind=(nd l i).kind∧(nd (doK k p c).1.l i).data=(nd l i).data∧(nd (doK k p c).1.l i).kind≠0:=by
 have h0:=open_goes h.tab (h.in_live w.live) w.cnt (newD c.flags i);obtain⟨a1,a2,a3,_⟩:=back_open h.tab h0
 have hpos:0<(nd l i).opn+1:=by
  have:=w.rig.opn i w.kind;show 0<(nd (withD k l).l i).opn+1;omega
 rw[w.eq];refine⟨a1,a3,opened_seen w.kind (.inr (.inr hpos)),?_,?_,?_⟩
 · show(nd (openedL l i 1) i).kind=_
   rw[opened_nd w.kind,if_pos rfl];exact(atN_kind hpos).1
 · show(nd (openedL l i 1) i).data=_
   rw[opened_nd w.kind,if_pos rfl];unfold atN;rw[if_neg (by omega)];rfl
 · show(nd (openedL l i 1) i).kind≠0
   rw[opened_nd w.kind,if_pos rfl,(atN_kind hpos).1];exact w.kind
end Go.Proofs.YtkoaicabkgaglaaGreatDoor
namespace Go.Proofs.YtkoaicabkgaglaaGreatDoor
open Go.RowKit Go.Shelf
structure BelB (q:Nat) (w w':World):Prop where
 os:w'.os=w.os
 tape:w'.tape=w.tape
 output:w'.output=w.output
 size:w.heap.size≤w'.heap.size
 block : ∀k,k<w.heap.size→k≠q→w'.heap[k]? = w.heap[k]?
theorem BelB.refl (q:Nat)(w:World):BelB q w w:=⟨rfl,rfl,rfl,Nat.le_refl _,fun _ _ _=>rfl⟩
theorem BelB.trans {q:Nat}{a b c:World}(h:BelB q a b)(k:BelB q b c):BelB q a c :=
 ⟨k.os.trans h.os,k.tape.trans h.tape,k.output.trans h.output,Nat.le_trans h.size k.size,fun i hi hq=>(k.block i (Nat.lt_of_lt_of_le hi h.size) hq).trans (h.block i hi hq)⟩
theorem BelB.of {q:Nat}{w w':World}(h:Below w.heap.size w w'):BelB q w w':=⟨h.os,h.tape,h.output,h.size,fun i hi _=>h.block i hi⟩
theorem BelB.bel {q:Nat}{a w w':World}(ha:Below a.heap.size a w)(hq:a.heap.size≤q)(h:BelB q w w'):Below a.heap.size a w' :=
 ⟨h.os.trans ha.os,h.tape.trans ha.tape,h.output.trans ha.output,Nat.le_trans ha.size h.size,fun i hi=>(h.block i (Nat.lt_of_lt_of_le hi ha.size) (by omega)).trans (ha.block i hi)⟩
structure Sw (X:Nat→Prop) (w:World) (q:Nat) (B:List Bl) (G:List Thing) (W:World):Prop where
 bel:BelB q w W
 old:Old X w
 blk : ∀x∈B,W.heap[x.1]? = some (.cells x.2.1 x.2.2 (0,0))∧(w.heap.size≤x.1∨x.1=q)
 nd:(B.map (·.1)).Nodup
 gv : ∀P∈G,Firm P∧P (Xo X (B.map (·.1))) W
section
variable {X:Nat→Prop} {w W W':World} {q:Nat} {B:List Bl} {G:List Thing}
theorem Sw.lt (h:Sw X w q B G W){x:Bl}(hx:x∈B):x.1<W.heap.size:=(Array.getElem?_eq_some_iff.1 (h.blk x hx).1).1
theorem Sw.start (hX:Old X w)(hq:X q){cs:Array Value}{t:TypeId}(hc:w.heap[q]? = some (.cells cs t (0,0)))(hG : ∀P∈G,Firm P∧P X w):Sw X w q [(q,cs,t)] G w :=
 ⟨BelB.refl _ _,hX,(fun x hx=>by rw[List.mem_singleton]at hx;subst hx;exact⟨hc, .inr rfl⟩),by simp,fun P hP=>⟨(hG P hP).1,(hG P hP).1.sub (hG P hP).2 fun g hg=>hg.elim id (fun h=>by
  simp only[List.map_cons,List.map_nil,List.mem_singleton]at h
  subst h;exact hq)⟩⟩
theorem Sw.call (h:Sw X w q B G W)(hb:Below W.heap.size W W'):Sw X w q B G W' :=
 ⟨h.bel.trans (.of hb),h.old,fun x hx=>⟨(hb.block _ (h.lt hx)).trans (h.blk x hx).1,(h.blk x hx).2⟩,h.nd,fun P hP=>⟨(h.gv P hP).1,(h.gv P hP).1.keep (h.gv P hP).2 hb⟩⟩
theorem Sw.oldX (h:Sw X w q B G W):Old (Xo X (B.map (·.1))) W:=fun g hg=>by
 rcases hg with hg | hg
 · exact Nat.lt_of_lt_of_le (h.old g hg) h.bel.size
 · obtain⟨x,hx,rfl⟩:=List.mem_map.1 hg
   exact h.lt hx
theorem Sw.news (h:Sw X w q B G W)(hb:Below W.heap.size W W')(C:List Bl)(hC : ∀x∈C,W'.heap[x.1]? = some (.cells x.2.1 x.2.2 (0,0))∧W.heap.size≤x.1)(hn:(C.map (·.1)).Nodup):Sw X w q (B++C) G W':=by
 have hY : ∀g,Xo X ((B++C).map (·.1)) g→Xo X (B.map (·.1)) g∨W.heap.size≤g:=fun g hg=>by
  rcases hg with hg | hg
  · exact .inl (.inl hg)
  · rw[List.map_append,List.mem_append]at hg
    rcases hg with hg | hg
    · exact .inl (.inr hg)
    · obtain⟨x,hx,rfl⟩:=List.mem_map.1 hg
      exact .inr (hC x hx).2
 refine⟨h.bel.trans (.of hb),h.old,fun x hx=> ?_,?_,fun P hP=>⟨(h.gv P hP).1,(h.gv P hP).1.add (h.gv P hP).2 hb hY⟩⟩
 · rcases List.mem_append.1 hx with hx | hx
   · exact⟨(hb.block _ (h.lt hx)).trans (h.blk x hx).1,(h.blk x hx).2⟩
   · exact⟨(hC x hx).1, .inl (Nat.le_trans h.bel.size (hC x hx).2)⟩
 · rw[List.map_append,List.nodup_append]
   refine⟨h.nd,hn,fun a ha b hb2 e=> ?_⟩;obtain⟨x,hx,rfl⟩:=List.mem_map.1 ha;obtain⟨y,hy,rfl⟩:=List.mem_map.1 hb2;have:=h.lt hx;have:=(hC y hy).2;omega
theorem Sw.new1 (h:Sw X w q B G W)(hb:Below W.heap.size W W'){cs0:Array Value}{t0:TypeId}(h0:W'.heap[W.heap.size]? = some (.cells cs0 t0 (0,0))):Sw X w q (B++ [(W.heap.size,cs0,t0)]) G W' :=
 h.news hb _ (fun x hx=>by
  simp only[List.mem_cons,List.not_mem_nil,or_false]at hx;rcases hx with rfl
  · exact⟨h0,Nat.le_refl _⟩) (by simp)
theorem Sw.new2 (h:Sw X w q B G W)(hb:Below W.heap.size W W'){cs0 cs1:Array Value}{t0 t1:TypeId}(h0:W'.heap[W.heap.size]? = some (.cells cs0 t0 (0,0)))(h1:W'.heap[W.heap.size+1]? = some (.cells cs1 t1 (0,0))):Sw X w q (B++ [(W.heap.size,cs0,t0),(W.heap.size+1,cs1,t1)]) G W' :=
 h.news hb _ (fun x hx=>by
  simp only[List.mem_cons,List.not_mem_nil,or_false]at hx;rcases hx with rfl | rfl
  · exact⟨h0,Nat.le_refl _⟩
  · exact⟨h1,Nat.le_add_right _ _⟩) (by simp)
theorem Sw.new3 (h:Sw X w q B G W)(hb:Below W.heap.size W W'){cs0 cs1 cs2:Array Value}{t0 t1 t2:TypeId}(h0:W'.heap[W.heap.size]? = some (.cells cs0 t0 (0,0)))(h1:W'.heap[W.heap.size+1]? = some (.cells cs1 t1 (0,0)))(h2:W'.heap[W.heap.size+2]? = some (.cells cs2 t2 (0,0))):Sw X w q (B++ [(W.heap.size,cs0,t0),(W.heap.size+1,cs1,t1),(W.heap.size+2,cs2,t2)]) G W' :=
 h.news hb _ (fun x hx=>by
  simp only[List.mem_cons,List.not_mem_nil,or_false]at hx;rcases hx with rfl | rfl | rfl
  · exact⟨h0,Nat.le_refl _⟩
  · exact⟨h1,Nat.le_add_right _ _⟩
  · exact⟨h2,Nat.le_add_right _ _⟩) (by simp)
theorem Sw.at (h:Sw X w q B G W)(k:Nat){b:Nat}{cs:Array Value}{t:TypeId}(hk:B[k]? = some (b,cs,t)):W.heap[b]? = some (.cells cs t (0,0)):=(h.blk _ (List.mem_of_getElem? hk)).1
theorem Sw.own (h:Sw X w q B G W)(k:Nat){b:Nat}{cs:Array Value}{t:TypeId}(hk:B[k]? = some (b,cs,t)):(w.heap.size≤b∨b=q)∧b<W.heap.size:=⟨(h.blk _ (List.mem_of_getElem? hk)).2,h.lt (List.mem_of_getElem? hk)⟩
theorem box_set {k:Nat}{b:Nat}{cs cs':Array Value}{t:TypeId}(hk:B[k]? = some (b,cs,t))(hnd:(B.map (·.1)).Nodup){x:Bl}(hx:x∈B.set k (b,cs',t)):x=(b,cs',t)∨(x∈B∧x.1≠b):=by
 have hkl:=(List.getElem?_eq_some_iff.1 hk).1;obtain⟨j,hj⟩:=List.mem_iff_getElem?.1 hx;rw[List.getElem?_set]at hj;by_cases e:k=j
 · subst e
   rw[if_pos rfl,if_pos hkl]at hj;exact .inl (Option.some.inj hj).symm
 · rw[if_neg e]at hj
   refine .inr ⟨List.mem_of_getElem? hj,fun e2=> ?_⟩;(have h1:(B.map (·.1))[k]? = some b:=by rw[List.getElem?_map,hk];rfl);(have h2:(B.map (·.1))[j]? = some b:=by rw[List.getElem?_map,hj,←e2];rfl);(have hkl':k<(B.map (·.1)).length:=by simpa using hkl);exact e ((List.getElem?_inj hkl' hnd).1 (h1.trans h2.symm))
theorem Sw.set (h:Sw X w q B G W)(k:Nat){b:Nat}{cs cs':Array Value}{t:TypeId}(hk:B[k]? = some (b,cs,t))(hb:Below b W W')(hg : ∀g,g≠b→W'.heap[g]? = W.heap[g]?)(hs:W'.heap.size=W.heap.size)(hn:W'.heap[b]? = some (.cells cs' t (0,0))) :
 Sw X w q (B.set k (b,cs',t)) G W':=by
 have hm:=map_set_same (cs':=cs') hk;have hXb:Xo X (B.map (·.1)) b:= .inr (List.mem_map.2 ⟨_,List.mem_of_getElem? hk,rfl⟩);have hwb:=(h.own k hk).1;refine⟨⟨hb.os.trans h.bel.os,hb.tape.trans h.bel.tape,hb.output.trans h.bel.output,by rw[hs];exact h.bel.size,fun g hl hq=>(hg g (by omega)).trans (h.bel.block g hl hq)⟩,h.old,fun x hx=> ?_,by rw[hm];exact h.nd,fun P hP=>by rw[hm];exact⟨(h.gv P hP).1,(h.gv P hP).1.other (h.gv P hP).2 hXb hs hg⟩⟩;rcases box_set hk h.nd hx with rfl | ⟨hx,hne⟩
 · exact⟨hn,hwb⟩
 · exact⟨(hg _ hne).trans (h.blk x hx).1,(h.blk x hx).2⟩
theorem Sw.more (h:Sw X w q B G W){P:Thing}(f:Firm P)(hg:P (Xo X (B.map (·.1))) W):Sw X w q B (G++ [P]) W :=
 ⟨h.bel,h.old,h.blk,h.nd,fun Q hQ=>by
  rcases List.mem_append.1 hQ with hQ | hQ
  · exact h.gv Q hQ
  · rw[List.mem_singleton]at hQ;subst hQ;exact⟨f,hg⟩⟩
theorem Sw.less (h:Sw X w q B G W){G':List Thing}(hG : ∀x∈G',x∈G):Sw X w q B G' W:=⟨h.bel,h.old,h.blk,h.nd,fun x hx=>h.gv x (hG x hx)⟩
theorem Sw.leave (h:Sw X w q B G W){B':List Bl}(hB:B'.Sublist B):Sw X w q B' G W :=
 ⟨h.bel,h.old,fun x hx=>h.blk x (hB.subset hx),List.Sublist.nodup (hB.map _) h.nd,fun P hP=>⟨(h.gv P hP).1,(h.gv P hP).1.sub (h.gv P hP).2 fun _ hg=>hg.imp id fun hg=>(hB.map (·.1)).subset hg⟩⟩
theorem Sw.g (h:Sw X w q B G W)(k:Nat){P:Thing}(hk:G[k]? = some P):P (Xo X (B.map (·.1))) W:=(h.gv _ (List.mem_of_getElem? hk)).2
theorem Sw.gX (h:Sw X w q B G W)(k:Nat){P:Thing}(hk:G[k]? = some P):P X W:=(h.gv _ (List.mem_of_getElem? hk)).1.sub (h.gv _ (List.mem_of_getElem? hk)).2 fun _ hg=> .inl hg
def RowTh (b:Nat)(cs:Array Value)(t:TypeId):Thing:=fun X W=>W.heap[b]? = some (.cells cs t (0,0))∧¬X b
theorem RowTh.firm (b:Nat)(cs:Array Value)(t:TypeId):Firm (RowTh b cs t) :=
 ⟨fun h hb hY=>⟨(hb.block _ (Array.getElem?_eq_some_iff.1 h.1).1).trans h.1,fun hy=>(hY b hy).elim h.2 fun h1=>absurd (Array.getElem?_eq_some_iff.1 h.1).1 (by omega)⟩,
  fun h hX hs hg=>⟨(hg b fun e=>h.2 (e▸hX)).trans h.1,h.2⟩⟩
theorem Sw.same (h:Sw X w q B G W)(k:Nat){cs:Array Value}{t:TypeId}(hk:B[k]? = some (q,cs,t))(hW:w.heap[q]? = some (.cells cs t (0,0))):Below w.heap.size w W :=
 ⟨h.bel.os,h.bel.tape,h.bel.output,h.bel.size,fun g hg=>by
  by_cases e:g=q
  · subst e;rw[h.at k hk,hW]
  · exact h.bel.block g hg e⟩
theorem Sw.inX (_h:Sw X w q B G W)(k:Nat){b:Nat}{cs:Array Value}{t:TypeId}(hk:B[k]? = some (b,cs,t)):Xo X (B.map (·.1)) b:= .inr (List.mem_map.2 ⟨_,List.mem_of_getElem? hk,rfl⟩)
theorem Sf.inX (_h:Sf X w B G W)(k:Nat){b:Nat}{cs:Array Value}{t:TypeId}(hk:B[k]? = some (b,cs,t)):Xo X (B.map (·.1)) b:= .inr (List.mem_map.2 ⟨_,List.mem_of_getElem? hk,rfl⟩)
end
end Go.Proofs.YtkoaicabkgaglaaGreatDoor
namespace Go.Proofs.YtkoaicabkgaglaaGreatDoor
open Go.RowKit Go.Shelf
theorem th4 {X:Nat→Prop}{w:World}{P Q R S:Thing}(f:Firm P)(h:P X w)(g:Firm Q)(k:Q X w)(e:Firm R)(m:R X w)(d:Firm S)(n:S X w) : ∀U∈ [P,Q,R,S],Firm U∧U X w:=fun U hU=>by
 simp only[List.mem_cons,List.not_mem_nil,or_false]at hU;rcases hU with rfl | rfl | rfl | rfl
 · exact⟨f,h⟩
 · exact⟨g,k⟩
 · exact⟨e,m⟩
 · exact⟨d,n⟩
end Go.Proofs.YtkoaicabkgaglaaGreatDoor
namespace Go.Proofs.YtkoaicabkgaglaaGreatDoor
open Go.RowKit Go.Shelf
structure Env (S:Nat→Addr) (W:World):Prop where
 sent:Sent S W
 tab:Lib.TabIs Tryz.prog W "internal/strconv.uint64pow10" .u64 Lib.pow10Tab
theorem powGlob:Tryz.prog.globalNamed "internal/strconv.uint64pow10" = some 12:=by kernel_rfl
def envB (S:Nat→Addr):List Nat:= [7,2,8,5,9,6,4,3,10,11,0,12]++codes.map fun k=>(S k).block
theorem cell_like {W W':World}{a:Addr}(h:W'.heap[a.block]? = W.heap[a.block]?):W'.cell? a=W.cell? a:=World.cell?_of_block (w:=W) h
theorem Env.like {S:Nat→Addr}{W W':World}(h:Env S W)(hs : ∀g∈envB S,W'.heap[g]? = W.heap[g]?):Env S W':=by
 (have g0:7∈envB S:=by simp[envB]);(have g1:2∈envB S:=by simp[envB]);(have g2:8∈envB S:=by simp[envB]);(have g3:5∈envB S:=by simp[envB]);(have g4:9∈envB S:=by simp[envB]);(have g5:6∈envB S:=by simp[envB]);(have g6:4∈envB S:=by simp[envB]);(have g7:3∈envB S:=by simp[envB]);(have g8:10∈envB S:=by simp[envB]);(have g9:11∈envB S:=by simp[envB]);(have g10:0∈envB S:=by simp[envB]);(have g11:12∈envB S:=by simp[envB]);refine⟨⟨(cell_like (a:=⟨7,0,none⟩) (hs _ g0)).trans h.sent.e1,(cell_like (a:=⟨2,0,none⟩) (hs _ g1)).trans h.sent.e2,(cell_like (a:=⟨8,0,none⟩) (hs _ g2)).trans h.sent.e3,(cell_like (a:=⟨5,0,none⟩) (hs _ g3)).trans h.sent.e4,(cell_like (a:=⟨9,0,none⟩) (hs _ g4)).trans h.sent.e5,(cell_like (a:=⟨6,0,none⟩) (hs _ g5)).trans h.sent.e6,(cell_like (a:=⟨4,0,none⟩) (hs _ g6)).trans h.sent.e7,(cell_like (a:=⟨3,0,none⟩) (hs _ g7)).trans h.sent.e9,(cell_like (a:=⟨10,0,none⟩) (hs _ g8)).trans h.sent.e11,(cell_like (a:=⟨11,0,none⟩) (hs _ g9)).trans h.sent.e15,fun k hk=> ?_,h.sent.inj,(cell_like (a:=⟨0,0,none⟩) (hs _ g10)).trans h.sent.err⟩,?_⟩
 · obtain⟨c,t,hc⟩:=h.sent.blk k hk
   exact⟨c,t,(hs _ (by unfold envB;exact List.mem_append_right _ (List.mem_map.2 ⟨k,hk,rfl⟩))).trans hc⟩
 · have ht:=h.tab
   unfold Lib.TabIs World.var? at ht ⊢;rw[powGlob,Option.bind_some]at ht ⊢;rw[hs _ g11];exact ht
theorem Env.low {S:Nat→Addr}{W:World}(h:Env S W) : ∀g∈envB S,g<W.heap.size:=fun g hg=>by
 rcases List.mem_append.1 hg with hg | hg
 · simp only[List.mem_cons,List.not_mem_nil,or_false]at hg
   rcases hg with rfl | rfl | rfl | rfl | rfl | rfl | rfl | rfl | rfl | rfl | rfl | rfl
   · exact World.block_lt_of_cell? W _ h.sent.e1
   · exact World.block_lt_of_cell? W _ h.sent.e2
   · exact World.block_lt_of_cell? W _ h.sent.e3
   · exact World.block_lt_of_cell? W _ h.sent.e4
   · exact World.block_lt_of_cell? W _ h.sent.e5
   · exact World.block_lt_of_cell? W _ h.sent.e6
   · exact World.block_lt_of_cell? W _ h.sent.e7
   · exact World.block_lt_of_cell? W _ h.sent.e9
   · exact World.block_lt_of_cell? W _ h.sent.e11
   · exact World.block_lt_of_cell? W _ h.sent.e15
   · exact World.block_lt_of_cell? W _ h.sent.err
   · have:=h.tab.cell powGlob 0 (by decide)
     exact World.block_lt_of_cell? W _ this
 · obtain⟨k,hk,rfl⟩:=List.mem_map.1 hg
   obtain⟨c,t,hc⟩:=h.sent.blk k hk;exact(Array.getElem?_eq_some_iff.1 hc).1
def EnvX (S:Nat→Addr):Thing:=fun X W=>Env S W∧∀g∈envB S,¬X g
theorem EnvX.firm (S:Nat→Addr):Firm (EnvX S) :=
 ⟨fun h hb hY=>⟨h.1.like fun g hg=>hb.block g (h.1.low g hg),fun g hg hyg=>(hY g hyg).elim (h.2 g hg) fun h1=>absurd (h.1.low g hg) (by omega)⟩,
  fun h hX hs hg=>⟨h.1.like fun g hgb=>hg g fun e=>h.2 g hgb (e▸hX),h.2⟩⟩
theorem EnvX.none {S:Nat→Addr}{W:World}(h:Env S W):EnvX S (fun _=>False) W:=⟨h,fun _ _ h=>h⟩
end Go.Proofs.YtkoaicabkgaglaaGreatDoor
namespace Go.Proofs.YtkoaicabkgaglaaGreatDoor
open Go.RowKit Go.Shelf Go.Lib Go.Extern.Stop Go.Stop Go.Extern
abbrev kfaultV (n:Int):Value:= .iface 150 (.int .i64 n)
abbrev klostV (p:ByteArray)(n:Int):Value:= .iface 231 (.agg #[.string p,kfaultV n])
def ErrK (n:Int)(v:Value):Prop:=(n=0∧v = .nilIface)∨(n≠0∧(v=kfaultV n∨∃p,v=klostV p n))
theorem ErrK.nil:ErrK 0 .nilIface:= .inl ⟨rfl,rfl⟩
theorem ErrK.fault {n:Int}(h:n≠0):ErrK n (kfaultV n):= .inr ⟨h, .inl rfl⟩
theorem ErrK.failed {n:Int}(h:n≠0)(p:ByteArray):ErrK n (klostV p n):= .inr ⟨h, .inr ⟨p,rfl⟩⟩
theorem ErrK.ok {v:Value}(h:ErrK 0 v):v = .nilIface:=h.elim (·.2) fun h=>absurd rfl h.1
theorem ErrK.no {n:Int}{v:Value}(h:ErrK n v)(hn:n≠0) : ∃t x,v = .iface t x:=by
 rcases h with h | ⟨_,rfl | ⟨p,rfl⟩⟩
 · exact absurd h.1 hn
 · exact⟨_,_,rfl⟩
 · exact⟨_,_,rfl⟩
end Go.Proofs.YtkoaicabkgaglaaGreatDoor
namespace Go.Proofs.YtkoaicabkgaglaaGreatDoor
open Go.RowKit Go.Shelf
attribute [local go_sem ↓] Go.wp_at_zero Go.wp_at_succ
section
variable {ps:List ProcL} {X:Nat→Prop} {W:World} {b off cp:Nat}
theorem PsX.rng (h:PsX ps (.slice (some ⟨b,off,none⟩) ps.length cp) X W)(a:Nat)(ha:a<ps.length):W.rangeAt b (off+a*4) (prcells ps[a]):=by
 obtain⟨b',o',e,hr⟩:=h.range a ha;injection e with e;injection e with e1 e2 _;subst e1;subst e2;exact hr
end
end Go.Proofs.YtkoaicabkgaglaaGreatDoor
namespace Go.Proofs.YtkoaicabkgaglaaGreatDoor
open Go.RowKit Go.Shelf
attribute [local go_sem ↓] Go.wp_at_zero Go.wp_at_succ
def inD (t:TabL)(i:Int):Bool:=decide (0≤i) && decide (i<t.ds.length)
set_option maxRecDepth 100000 in
set_option maxHeartbeats 4000000 in
theorem phas_c {X:Nat→Prop}(t:TabL)(ad af:Option Addr)(cap capf:Nat)(w:World)(hT:TabX t (.slice ad t.ds.length cap) (.slice af t.fs.length capf) X w)(p:Int) :
 Calls Tryz.prog 63 #[tabV ad t.ds.length cap af t.fs.length capf, .int .i64 p] w fun e w'=>e = .returned (.bool (inT t p))∧Below w.heap.size w w':=by
 have S0:=Lib.hid (Sf.start (w:=w) (X:=fun _=>False) (G:= [TabX t (.slice ad t.ds.length cap) (.slice af t.fs.length capf)]) (fun _ h=>h.elim) (th1 (TabX.firm _ _ _) ((TabX.firm _ _ _).sub hT fun _ h=>h.elim)));clear hT;go_enter Tryz.func63,Tryz.ntmps63;go_upto_region 1 with(fail);refine code_fresh1 ?_;intro W1 hb hA0 hs;have S1:=Lib.hid (S0.out.new1 hb hA0);clear hb hA0 hs;obtain⟨d0,d1⟩:=cells2 (S1.out.at 0 rfl);by_cases h1:p<0
 · have i1:decide (0≤p)=false:=decide_eq_false (by omega)
   have HB:Hid ((inT t p)=false):=Lib.hid (by unfold inT;rw[i1];rfl);go_wp2_with fail;go_ret;exact⟨by rw[HB.out];rfl,S1.out.bel⟩
 · have i1:decide (0≤p)=true:=decide_eq_true (by omega)
   obtain⟨a,rfl⟩:=Int.eq_ofNat_of_zero_le (show 0≤p by omega);(have a0:(0:Int)≤(a:Int):=by omega);clear h1;by_cases h2:a<t.fs.length
   · have iL1:decide (a<t.fs.length)=true:=decide_eq_true (by omega)
     have iM1:decide ((a:Int)<(t.fs.length:Int))=true:=decide_eq_true (by omega);have HB:Hid ((inT t (a:Int))=true):=Lib.hid (by unfold inT;rw[iM1,i1];rfl);clear i1 h2;go_wp2_with fail;go_ret;exact⟨by rw[HB.out];rfl,S1.out.bel⟩
   · have iL1:decide (a<t.fs.length)=false:=decide_eq_false (by omega)
     have iM1:decide ((a:Int)<(t.fs.length:Int))=false:=decide_eq_false (by omega);have HB:Hid ((inT t (a:Int))=false):=Lib.hid (by unfold inT;rw[iM1,i1];rfl);clear i1 h2;go_wp2_with fail;go_ret;exact⟨by rw[HB.out];rfl,S1.out.bel⟩
set_option maxRecDepth 100000 in
set_option maxHeartbeats 4000000 in
theorem phasD_c {X:Nat→Prop}(t:TabL)(ad af:Option Addr)(cap capf:Nat)(w:World)(hT:TabX t (.slice ad t.ds.length cap) (.slice af t.fs.length capf) X w)(p:Int) :
 Calls Tryz.prog 43 #[tabV ad t.ds.length cap af t.fs.length capf, .int .i64 p] w fun e w'=>e = .returned (.bool (inD t p))∧Below w.heap.size w w':=by
 have S0:=Lib.hid (Sf.start (w:=w) (X:=fun _=>False) (G:= [TabX t (.slice ad t.ds.length cap) (.slice af t.fs.length capf)]) (fun _ h=>h.elim) (th1 (TabX.firm _ _ _) ((TabX.firm _ _ _).sub hT fun _ h=>h.elim)));clear hT;go_enter Tryz.func43,Tryz.ntmps43;go_upto_region 1 with(fail);refine code_fresh1 ?_;intro W1 hb hA0 hs;have S1:=Lib.hid (S0.out.new1 hb hA0);clear hb hA0 hs;obtain⟨d0,d1⟩:=cells2 (S1.out.at 0 rfl);by_cases h1:p<0
 · have i1:decide (0≤p)=false:=decide_eq_false (by omega)
   have HB:Hid ((inD t p)=false):=Lib.hid (by unfold inD;rw[i1];rfl);go_wp2_with fail;go_ret;exact⟨by rw[HB.out];rfl,S1.out.bel⟩
 · have i1:decide (0≤p)=true:=decide_eq_true (by omega)
   obtain⟨a,rfl⟩:=Int.eq_ofNat_of_zero_le (show 0≤p by omega);(have a0:(0:Int)≤(a:Int):=by omega);clear h1;by_cases h2:a<t.ds.length
   · have iL1:decide (a<t.ds.length)=true:=decide_eq_true (by omega)
     have iM1:decide ((a:Int)<(t.ds.length:Int))=true:=decide_eq_true (by omega);have HB:Hid ((inD t (a:Int))=true):=Lib.hid (by unfold inD;rw[iM1,i1];rfl);clear i1 h2;go_wp2_with fail;go_ret;exact⟨by rw[HB.out];rfl,S1.out.bel⟩
   · have iL1:decide (a<t.ds.length)=false:=decide_eq_false (by omega)
     have iM1:decide ((a:Int)<(t.ds.length:Int))=false:=decide_eq_false (by omega);have HB:Hid ((inD t (a:Int))=false):=Lib.hid (by unfold inD;rw[iM1,i1];rfl);clear i1 h2;go_wp2_with fail;go_ret;exact⟨by rw[HB.out];rfl,S1.out.bel⟩
end Go.Proofs.YtkoaicabkgaglaaGreatDoor
namespace Go.Proofs.YtkoaicabkgaglaaGreatDoor
open Go.RowKit Go.Shelf
attribute [local go_sem ↓] Go.wp_at_zero Go.wp_at_succ
set_option maxRecDepth 100000 in
set_option maxHeartbeats 4000000 in
theorem pcount_c {X:Nat→Prop}(t:TabL)(ad af:Option Addr)(cap capf:Nat)(w:World)(hT:TabX t (.slice ad t.ds.length cap) (.slice af t.fs.length capf) X w)(p:Int)(hz:SizeT t)(hr:RightT t) :
 Calls Tryz.prog 45 #[tabV ad t.ds.length cap af t.fs.length capf, .int .i64 p] w fun e w'=>e = .returned (.int .i64 (countT t p))∧Below w.heap.size w w':=by
 have S0:=Lib.hid (Sf.start (w:=w) (X:=fun _=>False) (G:= [TabX t (.slice ad t.ds.length cap) (.slice af t.fs.length capf)]) (fun _ h=>h.elim) (th1 (TabX.firm _ _ _) ((TabX.firm _ _ _).sub hT fun _ h=>h.elim)));have HZ:=Lib.hid hz;have HRR:=Lib.hid hr;clear hT hz hr;go_enter Tryz.func45,Tryz.ntmps45;go_upto_region 1 with(fail);refine code_fresh1 ?_;intro W1 hb hA0 hs;have S1:=Lib.hid (S0.out.new1 hb hA0);clear hb hA0 hs;have h_d:=(S1.out.at 0 rfl);go_wp2_with (first | (refine wpList_load_row rfl 28 _ rfl _ rfl 28 _ (0,0) _ h_d Tryz.underlying28 rfl (by kernel_rfl) ?_));refine(phas_c t _ _ _ _ _ (S1.out.g 0 rfl) p).mono ?_;rintro e W2 ⟨rfl,hb⟩;clear h_d;have S2:=Lib.hid (S1.out.call hb);clear hb
 cases hin:inT t p with
 | false =>
    have HC:Hid (countT t p=0):=Lib.hid (by unfold countT;rw[hin];rfl);clear hin;go_wp2_with fail;go_ret;exact⟨by rw[HC.out];rfl,S2.out.bel⟩
 | true =>
    obtain⟨a,rfl,ha⟩:=in_T hin;have HC:Hid (countT t (a:Int)=countR (rowT t (a:Int))):=Lib.hid (by unfold countT;rw[hin];rfl);clear hin;(have a0:(0:Int)≤(a:Int):=by omega);(have a1:(a:Int)<(t.fs.length:Int):=by omega);obtain⟨b,off,ar,cr,eaf,_,cR,hR⟩:=TabX.row (S2.out.g 0 rfl) a ha;subst eaf;(have hrr : ∀x∈t.fs[a], -1≤x:=fun x hx=>((HRR.out.1 _ (List.getElem_mem ha)).2 x hx).1);have hr8:(t.fs[a]).length≤20:=HZ.out.2.2 _ (List.getElem_mem ha);rw[row_at ha]at HC;obtain⟨r,hrow⟩ : ∃r,r=t.fs[a]:=⟨_,rfl⟩;rw[←hrow]at cR hR HC hrr hr8;clear hrow;obtain⟨d0,d1⟩:=cells2 (S2.out.at 0 rfl);go_wp2_with fail;go_loop [5,18] (fun n i=>∃k:Nat,n = .int .i64 (countR (r.take k))∧i = .int .i64 k∧k≤r.length) (fun _ i=>r.length-(RowKit.intOf i).toNat)
    case atStart=>exact⟨0,rfl,rfl,Nat.zero_le _⟩
    case round =>
     obtain⟨k,rfl,rfl,hk⟩:=hrel;by_cases hlt:k<r.length
     · have iL1:decide (k<r.length)=true:=decide_eq_true (by omega)
       have iM1:decide ((k:Int)<(r.length:Int))=true:=decide_eq_true (by omega);(have k0:(0:Int)≤(k:Int):=by omega);(have k1:(k:Int)<(r.length:Int):=by omega);have wk:IntKind.i64.wrap ((k:Int)+1)=(k:Int)+1:=Go.IntWalk.i64_in _ (by omega);obtain⟨b2,off2,ear,cI⟩:=RdX.int hR k hlt;subst ear;have HS:=Lib.hid (count_step r k hlt);(have hcl:countR (r.take k)≤20:=by have:=count_le (r.take k);rw[List.length_take]at this;omega);have hvr:=hrr _ (List.getElem_mem hlt);obtain⟨c,hc⟩ : ∃c,c=countR (r.take k):=⟨_,rfl⟩;rw[←hc]at HS hcl ⊢;clear hc;obtain⟨v,hv⟩ : ∃v,v=r[k]:=⟨_,rfl⟩;rw[←hv]at cI HS hvr;clear hv;have wc:IntKind.i64.wrap ((c:Int)+1)=(c:Int)+1:=Go.IntWalk.i64_in _ (by omega);by_cases h5:v = -1
       · subst h5
         have HS2:Hid (countR (r.take (k+1))=c):=Lib.hid (by rw[HS.out,if_neg (by omega),Nat.add_zero]);go_wp2_with fail;go_round
         case rel=>exact⟨k+1,by rw[HS2.out],by go_num,hlt⟩
         case measure=>simp[RowKit.intOf];omega
       · have i5:decide (v = -1)=false:=decide_eq_false h5
         (have i6:(v == -1)=false:=by rw[beq_eq_false_iff_ne];exact h5);(have i7:(v != -1)=true:=by rw[bne_iff_ne];exact h5);have HS2:Hid (countR (r.take (k+1))=c+1):=Lib.hid (by rw[HS.out,if_pos (by omega)]);clear h5;go_wp2_with fail;go_round
         case rel=>exact⟨k+1,by rw[HS2.out];go_num,by go_num,hlt⟩
         case measure=>simp[RowKit.intOf];omega
     · have iL1:decide (k<r.length)=false:=decide_eq_false (by omega)
       have iM1:decide ((k:Int)<(r.length:Int))=false:=decide_eq_false (by omega);have ht:r.take k=r:=List.take_of_length_le (by omega);rw[ht];clear ht hlt;go_wp2_with fail;go_ret;exact⟨by rw[HC.out];rfl,S2.out.bel⟩
end Go.Proofs.YtkoaicabkgaglaaGreatDoor
namespace Go.Proofs.YtkoaicabkgaglaaGreatDoor
open Go.RowKit Go.Shelf
theorem made_at (z:Array Value)(n j:Nat)(hj:j<n):(madeCells z n).toList[j]? = some z[j % z.size]!:= by
 rw[Array.getElem?_toList];simp[madeCells,hj]
theorem made_one (z:Value)(n:Nat):(madeCells #[z] n).toList=List.replicate n z:=by
 apply List.ext_getElem?;intro j;rcases Nat.lt_or_ge j n with hj | hj
 · rw[made_at _ _ _ hj,List.getElem?_replicate,if_pos hj,show(#[z]:Array Value).size=1 from rfl,Nat.mod_one]
   rfl
 · rw[List.getElem?_eq_none (by rw[Array.length_toList,size_madeCells];exact hj),List.getElem?_eq_none (by rw[List.length_replicate];exact hj)]
theorem own_ints {W:World}{base:Nat}{e:TypeId}{v:Value}{n:Nat}(h:W.ownsRow base e 1 v n (madeCells #[.int .i64 0] (n*1)).toList):W.ownsRow base e 1 v (List.replicate n (0:Int)).length (intC (List.replicate n 0)):=by
 rw[made_one,Nat.mul_one]at h;rw[List.length_replicate];unfold intC;rw[List.map_replicate];exact h
section
variable {tD tS tI:TypeId} {base:Nat} {t:TabL} {vd vf:Value} {rows:List RowV} {X:Nat→Prop} {W W':World}
def noRow:RowV:=([], .slice none 0 0)
theorem OwnT.start {ds:List DescL}{n:Nat}(h:OwnT tD tS tI base ⟨ds,[]⟩ vd (.slice none 0 0) [] W)(ho:W.ownsRow base tS 1 vf n (madeCells #[.slice none 0 0] (n*1)).toList):OwnT tD tS tI base ⟨ds,List.replicate n []⟩ vd vf (List.replicate n noRow) W:=by
 refine⟨by rw[List.map_replicate];rfl,h.ds,?_,fun m hm=> ?_,fun i j a b ha _ _ g hg=> ?_⟩
 · rw[made_one,Nat.mul_one]at ho
   rw[List.length_replicate,List.map_replicate];exact ho
 · obtain rfl:=List.eq_of_mem_replicate hm
   exact World.ownsRow_nil _ _ _ _
 · obtain rfl:=List.eq_of_mem_replicate (List.mem_of_getElem? ha)
   cases hg
end
end Go.Proofs.YtkoaicabkgaglaaGreatDoor
