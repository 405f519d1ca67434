import Derived.Test.YtmiekcdkamgknaaGreatDoorR26
import Derived.Test.YtmiekcdkamgknaaGreatDoorR24
import Derived.Lib.LaidTab
import Derived.Lib.ItoaNum
namespace Go.Proofs.YtmiekcdkamgknaaGreatDoor
open Go.RowKit Go.Shelf
structure BelB (q:Nat) (w w':World):Prop where
 os:w'.os=w.os
 tape:w'.tape=w.tape
 output:w'.output=w.output
 size:w.heap.size≤w'.heap.size
 block : ∀k,k<w.heap.size→k≠q→w'.heap[k]? = w.heap[k]?
theorem BelB.refl (q:Nat)(w:World):BelB q w w:=⟨rfl,rfl,rfl,Nat.le_refl _,fun _ _ _=>rfl⟩
theorem BelB.trans {q:Nat}{a b c:World}(h:BelB q a b)(k:BelB q b c):BelB q a c :=
 ⟨k.os.trans h.os,k.tape.trans h.tape,k.output.trans h.output,Nat.le_trans h.size k.size,fun i hi hq=>(k.block i (Nat.lt_of_lt_of_le hi h.size) hq).trans (h.block i hi hq)⟩
theorem BelB.of {q:Nat}{w w':World}(h:Below w.heap.size w w'):BelB q w w':=⟨h.os,h.tape,h.output,h.size,fun i hi _=>h.block i hi⟩
theorem BelB.bel {q:Nat}{a w w':World}(ha:Below a.heap.size a w)(hq:a.heap.size≤q)(h:BelB q w w'):Below a.heap.size a w' :=
 ⟨h.os.trans ha.os,h.tape.trans ha.tape,h.output.trans ha.output,Nat.le_trans ha.size h.size,fun i hi=>(h.block i (Nat.lt_of_lt_of_le hi ha.size) (by omega)).trans (ha.block i hi)⟩
def cutW (w:World)(n:Nat):World:= { w with heap:=w.heap.extract 0 n}
theorem cut_size {w:World}{n:Nat}(h:n≤w.heap.size):(cutW w n).heap.size=n:=by
 show(w.heap.extract 0 n).size=n;rw[Array.size_extract];omega
theorem cut_at {w:World}{n g:Nat}(h:n≤w.heap.size)(hg:g<n):(cutW w n).heap[g]? = w.heap[g]?:= by
 show(w.heap.extract 0 n)[g]? = _;rw[Array.getElem?_extract];simp only[Nat.zero_add,Nat.sub_zero];rw[if_pos (by omega)]
theorem cut_none {w:World}{n g:Nat}(h:n≤w.heap.size)(hg:n≤g):(cutW w n).heap[g]? = none:=by
 rw[Array.getElem?_eq_none];rw[cut_size h];exact hg
theorem Firm.both {P:Thing}(f:Firm P){X Y:Nat→Prop}{q:Nat}{W W':World}(h:P X W)(hq:X q)(hb:BelB q W W')(hY : ∀g,Y g→X g∨W.heap.size≤g):P Y W':=by
 have hs:(cutW W' W.heap.size).heap.size=W.heap.size:=cut_size hb.size
 have h1:P X (cutW W' W.heap.size):=f.other h hq hs fun g hg=>by
  rcases Nat.lt_or_ge g W.heap.size with hl | hl
  · rw[cut_at hb.size hl];exact hb.block g hl hg
  · rw[cut_none hb.size hl,Array.getElem?_eq_none hl]
 refine f.add h1 (W':=W') ⟨rfl,rfl,rfl,by rw[hs];exact hb.size,fun g hg=> ?_⟩ (by rw[hs];exact hY);rw[hs]at hg;exact(cut_at hb.size hg).symm
structure Sw (X:Nat→Prop) (w:World) (q:Nat) (B:List Bl) (G:List Thing) (W:World):Prop where
 bel:BelB q w W
 old:Old X w
 blk : ∀x∈B,W.heap[x.1]? = some (.cells x.2.1 x.2.2 (0,0))∧(w.heap.size≤x.1∨x.1=q)
 nd:(B.map (·.1)).Nodup
 gv : ∀P∈G,Firm P∧P (Xo X (B.map (·.1))) W
section
variable {X:Nat→Prop} {w W W':World} {q:Nat} {B:List Bl} {G:List Thing}
theorem Sw.lt (h:Sw X w q B G W){x:Bl}(hx:x∈B):x.1<W.heap.size:=(Array.getElem?_eq_some_iff.1 (h.blk x hx).1).1
theorem Sw.start (hX:Old X w)(hq:X q){cs:Array Value}{t:TypeId}(hc:w.heap[q]? = some (.cells cs t (0,0)))(hG : ∀P∈G,Firm P∧P X w):Sw X w q [(q,cs,t)] G w :=
 ⟨BelB.refl _ _,hX,(fun x hx=>by rw[List.mem_singleton]at hx;subst hx;exact⟨hc, .inr rfl⟩),by simp,fun P hP=>⟨(hG P hP).1,(hG P hP).1.sub (hG P hP).2 fun g hg=>hg.elim id (fun h=>by
  simp only[List.map_cons,List.map_nil,List.mem_singleton]at h
  subst h;exact hq)⟩⟩
theorem Sw.call (h:Sw X w q B G W)(hb:Below W.heap.size W W'):Sw X w q B G W' :=
 ⟨h.bel.trans (.of hb),h.old,fun x hx=>⟨(hb.block _ (h.lt hx)).trans (h.blk x hx).1,(h.blk x hx).2⟩,h.nd,fun P hP=>⟨(h.gv P hP).1,(h.gv P hP).1.keep (h.gv P hP).2 hb⟩⟩
theorem Sw.oldX (h:Sw X w q B G W):Old (Xo X (B.map (·.1))) W:=fun g hg=>by
 rcases hg with hg | hg
 · exact Nat.lt_of_lt_of_le (h.old g hg) h.bel.size
 · obtain⟨x,hx,rfl⟩:=List.mem_map.1 hg
   exact h.lt hx
theorem Sw.news (h:Sw X w q B G W)(hb:Below W.heap.size W W')(C:List Bl)(hC : ∀x∈C,W'.heap[x.1]? = some (.cells x.2.1 x.2.2 (0,0))∧W.heap.size≤x.1)(hn:(C.map (·.1)).Nodup):Sw X w q (B++C) G W':=by
 have hY : ∀g,Xo X ((B++C).map (·.1)) g→Xo X (B.map (·.1)) g∨W.heap.size≤g:=fun g hg=>by
  rcases hg with hg | hg
  · exact .inl (.inl hg)
  · rw[List.map_append,List.mem_append]at hg
    rcases hg with hg | hg
    · exact .inl (.inr hg)
    · obtain⟨x,hx,rfl⟩:=List.mem_map.1 hg
      exact .inr (hC x hx).2
 refine⟨h.bel.trans (.of hb),h.old,fun x hx=> ?_,?_,fun P hP=>⟨(h.gv P hP).1,(h.gv P hP).1.add (h.gv P hP).2 hb hY⟩⟩
 · rcases List.mem_append.1 hx with hx | hx
   · exact⟨(hb.block _ (h.lt hx)).trans (h.blk x hx).1,(h.blk x hx).2⟩
   · exact⟨(hC x hx).1, .inl (Nat.le_trans h.bel.size (hC x hx).2)⟩
 · rw[List.map_append,List.nodup_append]
   refine⟨h.nd,hn,fun a ha b hb2 e=> ?_⟩;obtain⟨x,hx,rfl⟩:=List.mem_map.1 ha;obtain⟨y,hy,rfl⟩:=List.mem_map.1 hb2;have:=h.lt hx;have:=(hC y hy).2;omega
theorem Sw.new1 (h:Sw X w q B G W)(hb:Below W.heap.size W W'){cs0:Array Value}{t0:TypeId}(h0:W'.heap[W.heap.size]? = some (.cells cs0 t0 (0,0))):Sw X w q (B++ [(W.heap.size,cs0,t0)]) G W' :=
 h.news hb _ (fun x hx=>by
  simp only[List.mem_cons,List.not_mem_nil,or_false]at hx;rcases hx with rfl
  · exact⟨h0,Nat.le_refl _⟩) (by simp)
theorem Sw.new2 (h:Sw X w q B G W)(hb:Below W.heap.size W W'){cs0 cs1:Array Value}{t0 t1:TypeId}(h0:W'.heap[W.heap.size]? = some (.cells cs0 t0 (0,0)))(h1:W'.heap[W.heap.size+1]? = some (.cells cs1 t1 (0,0))):Sw X w q (B++ [(W.heap.size,cs0,t0),(W.heap.size+1,cs1,t1)]) G W' :=
 h.news hb _ (fun x hx=>by
  simp only[List.mem_cons,List.not_mem_nil,or_false]at hx;rcases hx with rfl | rfl
  · exact⟨h0,Nat.le_refl _⟩
  · exact⟨h1,Nat.le_add_right _ _⟩) (by simp)
theorem Sw.new4 (h:Sw X w q B G W)(hb:Below W.heap.size W W'){cs0 cs1 cs2 cs3:Array Value}{t0 t1 t2 t3:TypeId}(h0:W'.heap[W.heap.size]? = some (.cells cs0 t0 (0,0)))(h1:W'.heap[W.heap.size+1]? = some (.cells cs1 t1 (0,0)))(h2:W'.heap[W.heap.size+2]? = some (.cells cs2 t2 (0,0)))(h3:W'.heap[W.heap.size+3]? = some (.cells cs3 t3 (0,0))):Sw X w q (B++ [(W.heap.size,cs0,t0),(W.heap.size+1,cs1,t1),(W.heap.size+2,cs2,t2),(W.heap.size+3,cs3,t3)]) G W' :=
 h.news hb _ (fun x hx=>by
  simp only[List.mem_cons,List.not_mem_nil,or_false]at hx;rcases hx with rfl | rfl | rfl | rfl
  · exact⟨h0,Nat.le_refl _⟩
  · exact⟨h1,Nat.le_add_right _ _⟩
  · exact⟨h2,Nat.le_add_right _ _⟩
  · exact⟨h3,Nat.le_add_right _ _⟩) (by simp)
theorem Sw.at (h:Sw X w q B G W)(k:Nat){b:Nat}{cs:Array Value}{t:TypeId}(hk:B[k]? = some (b,cs,t)):W.heap[b]? = some (.cells cs t (0,0)):=(h.blk _ (List.mem_of_getElem? hk)).1
theorem Sw.own (h:Sw X w q B G W)(k:Nat){b:Nat}{cs:Array Value}{t:TypeId}(hk:B[k]? = some (b,cs,t)):(w.heap.size≤b∨b=q)∧b<W.heap.size:=⟨(h.blk _ (List.mem_of_getElem? hk)).2,h.lt (List.mem_of_getElem? hk)⟩
theorem box_set {k:Nat}{b:Nat}{cs cs':Array Value}{t:TypeId}(hk:B[k]? = some (b,cs,t))(hnd:(B.map (·.1)).Nodup){x:Bl}(hx:x∈B.set k (b,cs',t)):x=(b,cs',t)∨(x∈B∧x.1≠b):=by
 have hkl:=(List.getElem?_eq_some_iff.1 hk).1;obtain⟨j,hj⟩:=List.mem_iff_getElem?.1 hx;rw[List.getElem?_set]at hj;by_cases e:k=j
 · subst e
   rw[if_pos rfl,if_pos hkl]at hj;exact .inl (Option.some.inj hj).symm
 · rw[if_neg e]at hj
   refine .inr ⟨List.mem_of_getElem? hj,fun e2=> ?_⟩;(have h1:(B.map (·.1))[k]? = some b:=by rw[List.getElem?_map,hk];rfl);(have h2:(B.map (·.1))[j]? = some b:=by rw[List.getElem?_map,hj,←e2];rfl);(have hkl':k<(B.map (·.1)).length:=by simpa using hkl);exact e ((List.getElem?_inj hkl' hnd).1 (h1.trans h2.symm))
theorem Sw.set (h:Sw X w q B G W)(k:Nat){b:Nat}{cs cs':Array Value}{t:TypeId}(hk:B[k]? = some (b,cs,t))(hb:Below b W W')(hg : ∀g,g≠b→W'.heap[g]? = W.heap[g]?)(hs:W'.heap.size=W.heap.size)(hn:W'.heap[b]? = some (.cells cs' t (0,0))) :
 Sw X w q (B.set k (b,cs',t)) G W':=by
 have hm:=map_set_same (cs':=cs') hk;have hXb:Xo X (B.map (·.1)) b:= .inr (List.mem_map.2 ⟨_,List.mem_of_getElem? hk,rfl⟩);have hwb:=(h.own k hk).1;refine⟨⟨hb.os.trans h.bel.os,hb.tape.trans h.bel.tape,hb.output.trans h.bel.output,by rw[hs];exact h.bel.size,fun g hl hq=>(hg g (by omega)).trans (h.bel.block g hl hq)⟩,h.old,fun x hx=> ?_,by rw[hm];exact h.nd,fun P hP=>by rw[hm];exact⟨(h.gv P hP).1,(h.gv P hP).1.other (h.gv P hP).2 hXb hs hg⟩⟩;rcases box_set hk h.nd hx with rfl | ⟨hx,hne⟩
 · exact⟨hn,hwb⟩
 · exact⟨(hg _ hne).trans (h.blk x hx).1,(h.blk x hx).2⟩
theorem Sw.callw (h:Sw X w q B G W)(k:Nat){cs cs':Array Value}{t:TypeId}(hk:B[k]? = some (q,cs,t))(hb:BelB q W W')(hn:W'.heap[q]? = some (.cells cs' t (0,0))):Sw X w q (B.set k (q,cs',t)) G W':=by
 have hm:=map_set_same (cs':=cs') hk;have hXb:Xo X (B.map (·.1)) q:= .inr (List.mem_map.2 ⟨_,List.mem_of_getElem? hk,rfl⟩);refine⟨h.bel.trans hb,h.old,fun x hx=> ?_,by rw[hm];exact h.nd,fun P hP=>by rw[hm];exact⟨(h.gv P hP).1,(h.gv P hP).1.both (h.gv P hP).2 hXb hb fun _ hg=> .inl hg⟩⟩;rcases box_set hk h.nd hx with rfl | ⟨hx,hne⟩
 · exact⟨hn, .inr rfl⟩
 · exact⟨(hb.block _ (h.lt hx) hne).trans (h.blk x hx).1,(h.blk x hx).2⟩
theorem Sf.callw {b:Nat}(h:Sf X w B G W)(k:Nat){cs cs':Array Value}{t:TypeId}(hk:B[k]? = some (b,cs,t))(hb:BelB b W W')(hn:W'.heap[b]? = some (.cells cs' t (0,0))):Sf X w (B.set k (b,cs',t)) G W':=by
 have hm:=map_set_same (cs':=cs') hk;have hXb:Xo X (B.map (·.1)) b:= .inr (List.mem_map.2 ⟨_,List.mem_of_getElem? hk,rfl⟩);have hwb:=(h.own k hk).1;refine⟨BelB.bel h.bel hwb hb,h.old,fun x hx=> ?_,by rw[hm];exact h.nd,fun P hP=>by rw[hm];exact⟨(h.gv P hP).1,(h.gv P hP).1.both (h.gv P hP).2 hXb hb fun _ hg=> .inl hg⟩⟩;rcases box_set hk h.nd hx with rfl | ⟨hx,hne⟩
 · exact⟨hn,hwb⟩
 · exact⟨(hb.block _ (h.lt hx) hne).trans (h.blk x hx).1,(h.blk x hx).2⟩
theorem Sw.more (h:Sw X w q B G W){P:Thing}(f:Firm P)(hg:P (Xo X (B.map (·.1))) W):Sw X w q B (G++ [P]) W :=
 ⟨h.bel,h.old,h.blk,h.nd,fun Q hQ=>by
  rcases List.mem_append.1 hQ with hQ | hQ
  · exact h.gv Q hQ
  · rw[List.mem_singleton]at hQ;subst hQ;exact⟨f,hg⟩⟩
theorem Sw.less (h:Sw X w q B G W){G':List Thing}(hG : ∀x∈G',x∈G):Sw X w q B G' W:=⟨h.bel,h.old,h.blk,h.nd,fun x hx=>h.gv x (hG x hx)⟩
theorem Sw.leave (h:Sw X w q B G W){B':List Bl}(hB:B'.Sublist B):Sw X w q B' G W :=
 ⟨h.bel,h.old,fun x hx=>h.blk x (hB.subset hx),List.Sublist.nodup (hB.map _) h.nd,fun P hP=>⟨(h.gv P hP).1,(h.gv P hP).1.sub (h.gv P hP).2 fun _ hg=>hg.imp id fun hg=>(hB.map (·.1)).subset hg⟩⟩
theorem Sw.g (h:Sw X w q B G W)(k:Nat){P:Thing}(hk:G[k]? = some P):P (Xo X (B.map (·.1))) W:=(h.gv _ (List.mem_of_getElem? hk)).2
theorem Sw.gX (h:Sw X w q B G W)(k:Nat){P:Thing}(hk:G[k]? = some P):P X W:=(h.gv _ (List.mem_of_getElem? hk)).1.sub (h.gv _ (List.mem_of_getElem? hk)).2 fun _ hg=> .inl hg
def RowTh (b:Nat)(cs:Array Value)(t:TypeId):Thing:=fun X W=>W.heap[b]? = some (.cells cs t (0,0))∧¬X b
theorem RowTh.firm (b:Nat)(cs:Array Value)(t:TypeId):Firm (RowTh b cs t) :=
 ⟨fun h hb hY=>⟨(hb.block _ (Array.getElem?_eq_some_iff.1 h.1).1).trans h.1,fun hy=>(hY b hy).elim h.2 fun h1=>absurd (Array.getElem?_eq_some_iff.1 h.1).1 (by omega)⟩,
  fun h hX hs hg=>⟨(hg b fun e=>h.2 (e▸hX)).trans h.1,h.2⟩⟩
theorem Sw.same (h:Sw X w q B G W)(k:Nat){cs:Array Value}{t:TypeId}(hk:B[k]? = some (q,cs,t))(hW:w.heap[q]? = some (.cells cs t (0,0))):Below w.heap.size w W :=
 ⟨h.bel.os,h.bel.tape,h.bel.output,h.bel.size,fun g hg=>by
  by_cases e:g=q
  · subst e;rw[h.at k hk,hW]
  · exact h.bel.block g hg e⟩
theorem Sw.inX (_h:Sw X w q B G W)(k:Nat){b:Nat}{cs:Array Value}{t:TypeId}(hk:B[k]? = some (b,cs,t)):Xo X (B.map (·.1)) b:= .inr (List.mem_map.2 ⟨_,List.mem_of_getElem? hk,rfl⟩)
theorem Sf.inX (_h:Sf X w B G W)(k:Nat){b:Nat}{cs:Array Value}{t:TypeId}(hk:B[k]? = some (b,cs,t)):Xo X (B.map (·.1)) b:= .inr (List.mem_map.2 ⟨_,List.mem_of_getElem? hk,rfl⟩)
end
end Go.Proofs.YtmiekcdkamgknaaGreatDoor
namespace Go.Proofs.YtmiekcdkamgknaaGreatDoor
open Go.RowKit Go.Shelf
structure Env (S:Nat→Addr) (W:World):Prop where
 sent:Sent S W
 tab:Lib.TabIs Tryz.prog W "internal/strconv.uint64pow10" .u64 Lib.pow10Tab
theorem powGlob:Tryz.prog.globalNamed "internal/strconv.uint64pow10" = some 12:=by kernel_rfl
def envB (S:Nat→Addr):List Nat:= [6,1,7,4,8,5,3,2,9,10,0,12]++codes.map fun k=>(S k).block
theorem cell_like {W W':World}{a:Addr}(h:W'.heap[a.block]? = W.heap[a.block]?):W'.cell? a=W.cell? a:=World.cell?_of_block (w:=W) h
theorem Env.like {S:Nat→Addr}{W W':World}(h:Env S W)(hs : ∀g∈envB S,W'.heap[g]? = W.heap[g]?):Env S W':=by
 (have g0:6∈envB S:=by simp[envB]);(have g1:1∈envB S:=by simp[envB]);(have g2:7∈envB S:=by simp[envB]);(have g3:4∈envB S:=by simp[envB]);(have g4:8∈envB S:=by simp[envB]);(have g5:5∈envB S:=by simp[envB]);(have g6:3∈envB S:=by simp[envB]);(have g7:2∈envB S:=by simp[envB]);(have g8:9∈envB S:=by simp[envB]);(have g9:10∈envB S:=by simp[envB]);(have g10:0∈envB S:=by simp[envB]);(have g11:12∈envB S:=by simp[envB]);refine⟨⟨(cell_like (a:=⟨6,0,none⟩) (hs _ g0)).trans h.sent.e1,(cell_like (a:=⟨1,0,none⟩) (hs _ g1)).trans h.sent.e2,(cell_like (a:=⟨7,0,none⟩) (hs _ g2)).trans h.sent.e3,(cell_like (a:=⟨4,0,none⟩) (hs _ g3)).trans h.sent.e4,(cell_like (a:=⟨8,0,none⟩) (hs _ g4)).trans h.sent.e5,(cell_like (a:=⟨5,0,none⟩) (hs _ g5)).trans h.sent.e6,(cell_like (a:=⟨3,0,none⟩) (hs _ g6)).trans h.sent.e7,(cell_like (a:=⟨2,0,none⟩) (hs _ g7)).trans h.sent.e9,(cell_like (a:=⟨9,0,none⟩) (hs _ g8)).trans h.sent.e11,(cell_like (a:=⟨10,0,none⟩) (hs _ g9)).trans h.sent.e15,fun k hk=> ?_,h.sent.inj,(cell_like (a:=⟨0,0,none⟩) (hs _ g10)).trans h.sent.err⟩,?_⟩
 · obtain⟨c,t,hc⟩:=h.sent.blk k hk
   exact⟨c,t,(hs _ (by unfold envB;exact List.mem_append_right _ (List.mem_map.2 ⟨k,hk,rfl⟩))).trans hc⟩
 · have ht:=h.tab
   unfold Lib.TabIs World.var? at ht ⊢;rw[powGlob,Option.bind_some]at ht ⊢;rw[hs _ g11];exact ht
theorem Env.low {S:Nat→Addr}{W:World}(h:Env S W) : ∀g∈envB S,g<W.heap.size:=fun g hg=>by
 rcases List.mem_append.1 hg with hg | hg
 · simp only[List.mem_cons,List.not_mem_nil,or_false]at hg
   rcases hg with rfl | rfl | rfl | rfl | rfl | rfl | rfl | rfl | rfl | rfl | rfl | rfl
   · exact World.block_lt_of_cell? W _ h.sent.e1
   · exact World.block_lt_of_cell? W _ h.sent.e2
   · exact World.block_lt_of_cell? W _ h.sent.e3
   · exact World.block_lt_of_cell? W _ h.sent.e4
   · exact World.block_lt_of_cell? W _ h.sent.e5
   · exact World.block_lt_of_cell? W _ h.sent.e6
   · exact World.block_lt_of_cell? W _ h.sent.e7
   · exact World.block_lt_of_cell? W _ h.sent.e9
   · exact World.block_lt_of_cell? W _ h.sent.e11
   · exact World.block_lt_of_cell? W _ h.sent.e15
   · exact World.block_lt_of_cell? W _ h.sent.err
   · have:=h.tab.cell powGlob 0 (by decide)
     exact World.block_lt_of_cell? W _ this
 · obtain⟨k,hk,rfl⟩:=List.mem_map.1 hg
   obtain⟨c,t,hc⟩:=h.sent.blk k hk;exact(Array.getElem?_eq_some_iff.1 hc).1
def EnvX (S:Nat→Addr):Thing:=fun X W=>Env S W∧∀g∈envB S,¬X g
theorem EnvX.firm (S:Nat→Addr):Firm (EnvX S) :=
 ⟨fun h hb hY=>⟨h.1.like fun g hg=>hb.block g (h.1.low g hg),fun g hg hyg=>(hY g hyg).elim (h.2 g hg) fun h1=>absurd (h.1.low g hg) (by omega)⟩,
  fun h hX hs hg=>⟨h.1.like fun g hgb=>hg g fun e=>h.2 g hgb (e▸hX),h.2⟩⟩
theorem EnvX.none {S:Nat→Addr}{W:World}(h:Env S W):EnvX S (fun _=>False) W:=⟨h,fun _ _ h=>h⟩
end Go.Proofs.YtmiekcdkamgknaaGreatDoor
