import Derived.Test.YtpbmbpefophlfaaGreatDoorR17
import Derived.Deep.MidRow
import Derived.StillTailTactics
import Derived.Test.YtpbmbpefophlfaaGreatDoorR13
import Derived.Test.YtpbmbpefophlfaaGreatDoorR16
import Derived.Shelf.Spec.SlicesGrow
import Derived.Test.YtpbmbpefophlfaaGreatDoorR12
import Derived.Deep.DeepCutAuto
import Derived.Deep.AppendLies
import Derived.Deep.RegionHeld3
import Derived.BigRegion
namespace Go.Proofs.YtpbmbpefophlfaaGreatDoor
open Go.RowKit Go.Shelf
abbrev Bl:=Nat × Array Value × TypeId
def Xo (X:Nat→Prop)(L:List Nat):Nat→Prop:=fun g=>X g∨g∈L
structure St (X:Nat→Prop) (w:World) (B:List Bl) (G:List (List NodeL × Value)) (N:List (NodeL × Value)) (W:World):Prop where
 bel:Below w.heap.size w W
 old:Old X w
 blk : ∀x∈B,W.heap[x.1]? = some (.cells x.2.1 x.2.2 (0,0))∧w.heap.size≤x.1
 nd:(B.map (·.1)).Nodup
 gv : ∀x∈G,GivesX (Xo X (B.map (·.1))) x.1 x.2 W
 nv : ∀x∈N,NodeX (Xo X (B.map (·.1))) x.1 x.2 W
theorem fresh4 {P:World→Prop}{w:World}{A0 A1 A2 A3:Obj}(h : ∀W,Below w.heap.size w W→W.heap[w.heap.size]? = some A0→W.heap[w.heap.size+1]? = some A1→W.heap[w.heap.size+2]? = some A2→W.heap[w.heap.size+3]? = some A3→W.heap.size=w.heap.size+4→P W):P ((((w.alloc A0).alloc A1).alloc A2).alloc A3) :=
 fresh3 (P:=fun W=>P (W.alloc A3)) fun W1 b1 h0 h1 h2 s1=>fresh1 fun W2 b2 hn s2=>h W2 (ret_tr b1 b2) ((b2.block _ (by omega)).trans h0) ((b2.block _ (by omega)).trans h1) ((b2.block _ (by omega)).trans h2) (by rw[s1]at hn;exact hn) (by omega)
theorem code_fresh4 {P:Program}{a:Act}{w:World}{A0 A1 A2 A3:Obj}{c:Code}{K:Exit→Act→World→Prop}(h : ∀W,Below w.heap.size w W→W.heap[w.heap.size]? = some A0→W.heap[w.heap.size+1]? = some A1→W.heap[w.heap.size+2]? = some A2→W.heap[w.heap.size+3]? = some A3→W.heap.size=w.heap.size+4→c.wp P K a W):c.wp P K a ((((w.alloc A0).alloc A1).alloc A2).alloc A3):=fresh4 (P:=fun W=>c.wp P K a W) h
section
variable {X:Nat→Prop} {w W W':World} {B:List Bl} {G:List (List NodeL × Value)} {N:List (NodeL × Value)}
theorem St.lt (h:St X w B G N W){x:Bl}(hx:x∈B):x.1<W.heap.size:=(Array.getElem?_eq_some_iff.1 (h.blk x hx).1).1
theorem St.start (hX:Old X w)(hG : ∀x∈G,GivesX X x.1 x.2 w)(hN : ∀x∈N,NodeX X x.1 x.2 w):St X w [] G N w :=
 ⟨Below.refl _ _,hX,(fun _ h=>by cases h),List.nodup_nil,fun x hx=>(hG x hx).sub (Y:=Xo X []) fun g hg=>hg.elim id (fun h=>by cases h),fun x hx=>(hN x hx).sub (Y:=Xo X []) fun g hg=>hg.elim id (fun h=>by cases h)⟩
theorem St.call (h:St X w B G N W)(hb:Below W.heap.size W W'):St X w B G N W' :=
 ⟨ret_tr h.bel hb,h.old,fun x hx=>⟨(hb.block _ (h.lt hx)).trans (h.blk x hx).1,(h.blk x hx).2⟩,h.nd,fun x hx=>(h.gv x hx).keep hb,fun x hx=>(h.nv x hx).keep hb⟩
theorem St.oldX (h:St X w B G N W):Old (Xo X (B.map (·.1))) W:=fun g hg=>by
 rcases hg with hg | hg
 · exact Nat.lt_of_lt_of_le (h.old g hg) h.bel.size
 · obtain⟨x,hx,rfl⟩:=List.mem_map.1 hg
   exact h.lt hx
theorem St.news (h:St X w B G N W)(hb:Below W.heap.size W W')(C:List Bl)(hC : ∀x∈C,W'.heap[x.1]? = some (.cells x.2.1 x.2.2 (0,0))∧W.heap.size≤x.1)(hn:(C.map (·.1)).Nodup):St X w (B++C) G N W':=by
 have hY : ∀g,Xo X ((B++C).map (·.1)) g→Xo X (B.map (·.1)) g∨W.heap.size≤g:=fun g hg=>by
  rcases hg with hg | hg
  · exact .inl (.inl hg)
  · rw[List.map_append,List.mem_append]at hg
    rcases hg with hg | hg
    · exact .inl (.inr hg)
    · obtain⟨x,hx,rfl⟩:=List.mem_map.1 hg
      exact .inr (hC x hx).2
 refine⟨ret_tr h.bel hb,h.old,fun x hx=> ?_,?_,fun x hx=>(h.gv x hx).add hb hY,fun x hx=>(h.nv x hx).add hb hY⟩
 · rcases List.mem_append.1 hx with hx | hx
   · exact⟨(hb.block _ (h.lt hx)).trans (h.blk x hx).1,(h.blk x hx).2⟩
   · exact⟨(hC x hx).1,Nat.le_trans h.bel.size (hC x hx).2⟩
 · rw[List.map_append,List.nodup_append]
   refine⟨h.nd,hn,fun a ha b hb2 e=> ?_⟩;obtain⟨x,hx,rfl⟩:=List.mem_map.1 ha;obtain⟨y,hy,rfl⟩:=List.mem_map.1 hb2;have:=h.lt hx;have:=(hC y hy).2;omega
theorem St.new1 (h:St X w B G N W)(hb:Below W.heap.size W W'){cs0:Array Value}{t0:TypeId}(h0:W'.heap[W.heap.size]? = some (.cells cs0 t0 (0,0))) :
 St X w (B++ [(W.heap.size,cs0,t0)]) G N W' :=
 h.news hb _ (fun x hx=>by
  simp only[List.mem_cons,List.not_mem_nil,or_false]at hx;rcases hx with rfl
  · exact⟨h0,Nat.le_refl _⟩) (by simp)
theorem St.new2 (h:St X w B G N W)(hb:Below W.heap.size W W'){cs0 cs1:Array Value}{t0 t1:TypeId}(h0:W'.heap[W.heap.size]? = some (.cells cs0 t0 (0,0)))(h1:W'.heap[W.heap.size+1]? = some (.cells cs1 t1 (0,0))) :
 St X w (B++ [(W.heap.size,cs0,t0),(W.heap.size+1,cs1,t1)]) G N W' :=
 h.news hb _ (fun x hx=>by
  simp only[List.mem_cons,List.not_mem_nil,or_false]at hx;rcases hx with rfl | rfl
  · exact⟨h0,Nat.le_refl _⟩
  · exact⟨h1,Nat.le_add_right _ _⟩) (by simp)
theorem St.new3 (h:St X w B G N W)(hb:Below W.heap.size W W'){cs0 cs1 cs2:Array Value}{t0 t1 t2:TypeId}(h0:W'.heap[W.heap.size]? = some (.cells cs0 t0 (0,0)))(h1:W'.heap[W.heap.size+1]? = some (.cells cs1 t1 (0,0)))(h2:W'.heap[W.heap.size+2]? = some (.cells cs2 t2 (0,0))) :
 St X w (B++ [(W.heap.size,cs0,t0),(W.heap.size+1,cs1,t1),(W.heap.size+2,cs2,t2)]) G N W' :=
 h.news hb _ (fun x hx=>by
  simp only[List.mem_cons,List.not_mem_nil,or_false]at hx;rcases hx with rfl | rfl | rfl
  · exact⟨h0,Nat.le_refl _⟩
  · exact⟨h1,Nat.le_add_right _ _⟩
  · exact⟨h2,Nat.le_add_right _ _⟩) (by simp)
theorem St.new4 (h:St X w B G N W)(hb:Below W.heap.size W W'){cs0 cs1 cs2 cs3:Array Value}{t0 t1 t2 t3:TypeId}(h0:W'.heap[W.heap.size]? = some (.cells cs0 t0 (0,0)))(h1:W'.heap[W.heap.size+1]? = some (.cells cs1 t1 (0,0)))(h2:W'.heap[W.heap.size+2]? = some (.cells cs2 t2 (0,0)))(h3:W'.heap[W.heap.size+3]? = some (.cells cs3 t3 (0,0))) :
 St X w (B++ [(W.heap.size,cs0,t0),(W.heap.size+1,cs1,t1),(W.heap.size+2,cs2,t2),(W.heap.size+3,cs3,t3)]) G N W' :=
 h.news hb _ (fun x hx=>by
  simp only[List.mem_cons,List.not_mem_nil,or_false]at hx;rcases hx with rfl | rfl | rfl | rfl
  · exact⟨h0,Nat.le_refl _⟩
  · exact⟨h1,Nat.le_add_right _ _⟩
  · exact⟨h2,Nat.le_add_right _ _⟩
  · exact⟨h3,Nat.le_add_right _ _⟩) (by simp)
theorem St.at (h:St X w B G N W)(k:Nat){b:Nat}{cs:Array Value}{t:TypeId}(hk:B[k]? = some (b,cs,t)):W.heap[b]? = some (.cells cs t (0,0)):=(h.blk _ (List.mem_of_getElem? hk)).1
theorem St.own (h:St X w B G N W)(k:Nat){b:Nat}{cs:Array Value}{t:TypeId}(hk:B[k]? = some (b,cs,t)):w.heap.size≤b∧b<W.heap.size:=⟨(h.blk _ (List.mem_of_getElem? hk)).2,h.lt (List.mem_of_getElem? hk)⟩
theorem map_set_same {L:List Bl}{k b:Nat}{cs cs':Array Value}{t:TypeId}(hk:L[k]? = some (b,cs,t)):(L.set k (b,cs',t)).map (·.1)=L.map (·.1):=by
 apply List.ext_getElem?;intro j;rw[List.getElem?_map,List.getElem?_map,List.getElem?_set];by_cases e:k=j
 · subst e
   rw[if_pos rfl,hk];have:=(List.getElem?_eq_some_iff.1 hk).1;rw[if_pos this];rfl
 · rw[if_neg e]
theorem St.set (h:St X w B G N W)(k:Nat){b:Nat}{cs cs':Array Value}{t:TypeId}(hk:B[k]? = some (b,cs,t))(hb:Below b W W')(hg : ∀g,g≠b→W'.heap[g]? = W.heap[g]?)(hs:W'.heap.size=W.heap.size)(hn:W'.heap[b]? = some (.cells cs' t (0,0))) :
 St X w (B.set k (b,cs',t)) G N W':=by
 have hm:=map_set_same (cs':=cs') hk;have hkl:=(List.getElem?_eq_some_iff.1 hk).1;have hXb:Xo X (B.map (·.1)) b:= .inr (List.mem_map.2 ⟨_,List.mem_of_getElem? hk,rfl⟩);have hwb:=(h.own k hk).1;refine⟨h.bel.trans (hb.mono hwb),h.old,fun x hx=> ?_,by rw[hm];exact h.nd,fun x hx=>by rw[hm];exact(h.gv x hx).other hXb hs hg,fun x hx=>by rw[hm];exact(h.nv x hx).other hXb hs hg⟩;obtain⟨j,hj⟩:=List.mem_iff_getElem?.1 hx;rw[List.getElem?_set]at hj;by_cases e:k=j
 · subst e
   rw[if_pos rfl,if_pos hkl]at hj;obtain rfl:=Option.some.inj hj;exact⟨hn,hwb⟩
 · rw[if_neg e]at hj
   have hne:x.1≠b:=fun e2=>by
    (have h1:(B.map (·.1))[k]? = some b:=by rw[List.getElem?_map,hk];rfl);(have h2:(B.map (·.1))[j]? = some b:=by rw[List.getElem?_map,hj,←e2];rfl);(have hkl':k<(B.map (·.1)).length:=by simpa using hkl);exact e ((List.getElem?_inj hkl' h.nd).1 (h1.trans h2.symm))
   exact⟨(hg _ hne).trans (h.blk x (List.mem_of_getElem? hj)).1,(h.blk x (List.mem_of_getElem? hj)).2⟩
theorem St.addG (h:St X w B G N W){l:List NodeL}{v:Value}(hg:GivesX (Xo X (B.map (·.1))) l v W):St X w B (G++ [(l,v)]) N W :=
 ⟨h.bel,h.old,h.blk,h.nd,fun x hx=>by
  rcases List.mem_append.1 hx with hx | hx
  · exact h.gv x hx
  · rw[List.mem_singleton]at hx;subst hx;exact hg,h.nv⟩
theorem St.addN (h:St X w B G N W){n:NodeL}{v:Value}(hn:NodeX (Xo X (B.map (·.1))) n v W):St X w B G (N++ [(n,v)]) W :=
 ⟨h.bel,h.old,h.blk,h.nd,h.gv,fun x hx=>by
  rcases List.mem_append.1 hx with hx | hx
  · exact h.nv x hx
  · rw[List.mem_singleton]at hx;subst hx;exact hn⟩
theorem St.less (h:St X w B G N W){G':List (List NodeL × Value)}{N':List (NodeL × Value)}(hG : ∀x∈G',x∈G)(hN : ∀x∈N',x∈N):St X w B G' N' W :=
 ⟨h.bel,h.old,h.blk,h.nd,fun x hx=>h.gv x (hG x hx),fun x hx=>h.nv x (hN x hx)⟩
theorem St.g (h:St X w B G N W)(k:Nat){l:List NodeL}{v:Value}(hk:G[k]? = some (l,v)):GivesX (Xo X (B.map (·.1))) l v W:=h.gv _ (List.mem_of_getElem? hk)
theorem St.n (h:St X w B G N W)(k:Nat){n:NodeL}{v:Value}(hk:N[k]? = some (n,v)):NodeX (Xo X (B.map (·.1))) n v W:=h.nv _ (List.mem_of_getElem? hk)
theorem St.gX (h:St X w B G N W)(k:Nat){l:List NodeL}{v:Value}(hk:G[k]? = some (l,v)):GivesX X l v W:=(h.g k hk).sub fun _ hg=> .inl hg
end
end Go.Proofs.YtpbmbpefophlfaaGreatDoor
namespace Go.Proofs.YtpbmbpefophlfaaGreatDoor
open Go.RowKit Go.Shelf
theorem cells2 {W:World}{b:Nat}{u0 u1:Value}{t:TypeId}{f:Nat × Nat}(h:W.heap[b]? = some (.cells #[u0,u1] t f)):W.cell? ⟨b,0,none⟩=some u0∧W.cell? ⟨b,1,none⟩=some u1:=by
 refine⟨?_,?_⟩<;>(rw[Lib.cell_of_heap h];rfl)
theorem wpList_fresh1 {P:Program}{ops:Array Oper}{Q:Exit→Act→World→Prop}{l:List Oper}{a:Act}{w:World}{A:Obj}
 (h : ∀W,Below w.heap.size w W→W.heap[w.heap.size]? = some A→W.heap.size=w.heap.size+1→wpList P ops Q l a W):wpList P ops Q l a (w.alloc A):=fresh1 (P:=fun W=>wpList P ops Q l a W) h
theorem there_block {w:World}{b:Nat}{old:Array Value}{t:TypeId}(hb:w.heap[b]? = some (.cells old t (0,0))):w.there b 0 old.size:=fun j hj=>by
 refine⟨?_,Lib.frozen_of_heap hb _⟩;rw[Lib.cell_of_heap hb,Nat.zero_add,Array.getElem?_eq_getElem hj];rfl
theorem heap_setCells_same {b:Nat}{t:TypeId} : ∀(vs:List Value) (o:Nat) (w:World) (cs:Array Value),w.heap[b]? = some (.cells cs t (0,0))→∃cs',(w.setCells b o vs).heap[b]? = some (.cells cs' t (0,0))∧cs'.size=cs.size
 | [],_,_,cs,h=>⟨cs,h,rfl⟩
 | v::r,o,w,cs,h=>by
    obtain⟨cs',h1,h2⟩:=heap_setCells_same r (o+1) (w.setCell ⟨b,o,none⟩ v) _ (heap_set h);exact⟨cs',h1,by rw[h2,Array.size_setIfInBounds]⟩
theorem heap_setCells_all {w:World}{b:Nat}{old:Array Value}{t:TypeId}(vs:List Value)(hb:w.heap[b]? = some (.cells old t (0,0)))(hs:old.size=vs.length):(w.setCells b 0 vs).heap[b]? = some (.cells vs.toArray t (0,0)):=by
 obtain⟨cs',h1,h2⟩:=heap_setCells_same (t:=t) vs 0 w old hb;rw[h1];have hr:=World.rangeAt_setCells_same w b 0 vs (by rw[←hs];exact there_block hb)
 have:cs'=vs.toArray:=by
  apply Array.ext_getElem?;intro j;rcases Nat.lt_or_ge j vs.length with hj | hj
  · have h3:=hr j vs[j] (List.getElem?_eq_getElem hj)
    rw[Lib.cell_of_heap h1,Nat.zero_add]at h3;rw[h3];simp[hj]
  · rw[Array.getElem?_eq_none (by omega),Array.getElem?_eq_none (by simpa using hj)]
 rw[this]
theorem wpList_store_row {P:Program}{ops:Array Oper}{rest:List Oper}{op:Oper}{a:Act}{w:World}{Q:Exit→Act→World→Prop}(hgd:op.guard=none)(ty:TypeId)(x y:Operand)(ho:op.op = .store ty x y)
 (b:Nat) {cells old:List Value} {t:TypeId} (hx:a.eval x = .pointer (some ⟨b,0,none⟩)) (hy:a.eval y = .agg cells.toArray) (hb:w.heap[b]? = some (.cells old.toArray t (0,0))) (hs:old.length=cells.length)
 (hi:(P.info? ty).map (·.size)=some cells.length) (h1:cells.all (·.oneCell')=true)
 (h : ∀W',Below b w W'→(∀g,g≠b→W'.heap[g]? = w.heap[g]?)→W'.heap.size=w.heap.size→W'.heap[b]? = some (.cells cells.toArray t (0,0))→wpList P ops Q rest (a.put op.dst undef) W'):wpList P ops Q (op::rest) a w:=by
  refine wpList_store_mid hgd ty x y ho b 0 cells.toArray hx hy ?_ (by simpa using hi) ?_ ?_
  · have:=there_block hb
    rw[List.size_toArray]at this ⊢
    rwa [←hs]
  · exact all_oneCell_toArray fun v hv=>List.all_eq_true.1 h1 v hv
  · exact h _ (below_setCells _ _ (Nat.le_refl _) _ _ _) (fun g hg=>heap_setCells _ _ hg _ _ _) (size_setCells _ _ _ _) (heap_setCells_all _ hb (by rw[List.size_toArray];exact hs))
theorem wp_store_row {P:Program}{op:Oper}{a:Act}{w:World}{K:Act→World→Prop}{Q:Exit→Act→World→Prop}(ty:TypeId)(x y:Operand)(ho:op.op = .store ty x y)
 (b:Nat) {cells old:List Value} {t:TypeId} (hx:a.eval x = .pointer (some ⟨b,0,none⟩)) (hy:a.eval y = .agg cells.toArray) (hb:w.heap[b]? = some (.cells old.toArray t (0,0))) (hs:old.length=cells.length)
 (hi:(P.info? ty).map (·.size)=some cells.length) (h1:cells.all (·.oneCell')=true)
 (h : ∀W',Below b w W'→(∀g,g≠b→W'.heap[g]? = w.heap[g]?)→W'.heap.size=w.heap.size→W'.heap[b]? = some (.cells cells.toArray t (0,0))→K (a.put op.dst undef) W'):op.wp P a w K Q:=by
  refine wp_store_mid ty x y ho b 0 cells.toArray hx hy ?_ (by simpa using hi) ?_ ?_
  · have:=there_block hb
    rw[List.size_toArray]at this ⊢
    rwa [←hs]
  · exact all_oneCell_toArray fun v hv=>List.all_eq_true.1 h1 v hv
  · exact h _ (below_setCells _ _ (Nat.le_refl _) _ _ _) (fun g hg=>heap_setCells _ _ hg _ _ _) (size_setCells _ _ _ _) (heap_setCells_all _ hb (by rw[List.size_toArray];exact hs))
theorem yieldsIf_load_row {P:Program}{ops:Array Oper}{S:World→Prop}{op:Oper}{a:Act}(hw:Region.wanted op (yielded ops a.tmps)=true)(ty:TypeId)(x:Operand)(ho:op.op = .load ty x)
 (b:Nat) (hx:a.eval x = .pointer (some ⟨b,0,none⟩)) (t:TypeId) (cs:Array Value) (fr:Nat × Nat) (d:TypeDesc) (hS : ∀w,S w→w.heap[b]? = some (.cells cs t fr))
 (hu:P.underlying ty=some d) (hd:(match d with | .struct _ | .array _ _=>true | _=>false)=true) (hi:(P.info? ty).map (·.size)=some cs.size):YieldsIf P ops S op (.agg cs) a :=
  .inl ⟨hw,fun w hw'=>by
   unfold execOp
   simp only[ho,hx,Instr.loadAt,Instr.sureAddr,Sem.run_bind,Sem.run_pure,Result.andThen_ok,run_loadVar_row w b t ty cs fr d (hS w hw') hu hd hi]⟩
theorem results_cct {P:Program}{fn:Func}{p q u:Tmp}{ty ty2:TypeId}(h:fn.results = #[.cell p ty, .cell q ty2, .tmp u])(tmps:Array Value)(w:World)(g g2:Nat)(t t2:TypeId)(cs cs2:Array Value)(fr fr2:Nat × Nat)(d d2:TypeDesc)
 (hp:tmps.getD p undef = .pointer (some ⟨g,0,none⟩)) (hg:w.heap[g]? = some (.cells cs t fr)) (hq:tmps.getD q undef = .pointer (some ⟨g2,0,none⟩)) (hg2:w.heap[g2]? = some (.cells cs2 t2 fr2))
 (hu:P.underlying ty=some d) (hd:(match d with | .struct _ | .array _ _=>true | _=>false)=true) (hi:(P.info? ty).map (·.size)=some cs.size)
 (hu2:P.underlying ty2=some d2) (hd2:(match d2 with | .struct _ | .array _ _=>true | _=>false)=true) (hi2:(P.info? ty2).map (·.size)=some cs2.size) :
 (results fn tmps).run P w = .ok (.tuple #[.agg cs, .agg cs2,tmps.getD u undef]) w:=by
  (have hp':tmps[p]?.getD undef = .pointer (some ⟨g,0,none⟩):=by simpa using hp);(have hq':tmps[q]?.getD undef = .pointer (some ⟨g2,0,none⟩):=by simpa using hq);simp[results,h,hp',hq',asAddr,run_loadVar_row w g t ty cs fr d hg hu hd hi,run_loadVar_row w g2 t2 ty2 cs2 fr2 d2 hg2 hu2 hd2 hi2,Result.andThen]
end Go.Proofs.YtpbmbpefophlfaaGreatDoor
namespace Go.Proofs.YtpbmbpefophlfaaGreatDoor
open Go.RowKit Go.Shelf
structure Dsk (l:List NodeL):Prop where
 w : ∀ms,pl ms=l→DskW ms
 sm:Small l
theorem Dsk.len {l:List NodeL}(h:Dsk l):l.length≤10000:=Nat.le_trans h.sm.1 (by decide)
theorem Dsk.nm {l:List NodeL}(h:Dsk l)(i:Int):(nodeL l i).names.length≤130:=by
 unfold nodeL;split
 · unfold atI
   rcases Nat.lt_or_ge i.toNat l.length with h1 | h1
   · rw[List.getD_eq_getElem?_getD,List.getElem?_eq_getElem h1];exact(h.sm.2 _ (List.getElem_mem _)).2
   · rw[List.getD_eq_getElem?_getD,List.getElem?_eq_none h1];exact Nat.zero_le _
 · exact Nat.zero_le _
theorem Dsk.rig {l:List NodeL}(h:Dsk l):RightP l:=by
 (have hp:pl (l.map fun n=>(n,Value.nilIface))=l:=by simp[pl,List.map_map,Function.comp_def]);have:=(h.w _ hp).ok.right
 rwa [hp]at this
theorem cnt_small {l:List NodeL}(h:Small l)(j:Int):cnt l j≤14300:=by
 have main : ∀l:List NodeL,(∀n∈l,n.names.length≤130)→(l.map fun n=>cntN n.names j).sum≤l.length*130:=by
  intro l
  induction l with
  | nil=>intro _;exact Nat.le_refl _
  | cons n l ih =>
     intro hl;(have h1:=ih fun m hm=>hl m (List.mem_cons_of_mem _ hm));have h2:=hl n List.mem_cons_self;have h3:cntN n.names j≤n.names.length:=List.countP_le_length;simp only[List.map_cons,List.sum_cons,List.length_cons];omega
 (have h1:=main l fun n hn=>(h.2 n hn).2);have h2:=h.1;unfold cnt;omega
theorem nodeL_no {l:List NodeL}{i:Int}(h:gotB l i=false):nodeL l i=zeroN:=by unfold nodeL;rw[h];rfl
theorem links_small {l:List NodeL}(h:Dsk l)(i:Int):0≤(nodeL l i).links∧(nodeL l i).links≤14300:=by
 cases hg:gotB l i with
 | false=>rw[nodeL_no hg];exact⟨Int.le_refl 0,by decide⟩
 | true =>
    obtain⟨k,rfl,hlt,hk⟩:=got_nat hg;rw[nodeL_nd hk];obtain⟨hR,_⟩:=Rig.of h.rig;by_cases h0:k=0
    · subst h0;rw[hR.root.2.2];exact⟨by decide,by decide⟩
    · rw[(hR.nmd k h0 id hk).1]
      have:=cnt_small h.sm k;omega
theorem drop_links (l:List NodeL)(s:SpotL)(i:Int):(nodeL (droppedL l s) i).links=(nodeL l i).links:=by
 unfold droppedL setL;split
 · rename_i h
   obtain⟨k,hk,hlt⟩:=in_nat h;rw[hk,Int.toNat_natCast];rcases(show i<0∨0≤i by omega)with h2 | h2
   · have hn : ∀l:List NodeL,gotB l i=false:=fun l=>by unfold gotB inL;rw[decide_eq_false (by omega)];rfl
     rw[nodeL_no (hn _),nodeL_no (hn _)]
   · obtain⟨j,rfl⟩:=Int.eq_ofNat_of_zero_le h2
     by_cases hj:j=k
     · subst hj
       by_cases hg:(nd l j).kind=0
       · have h3:gotB l j=false:=by cases h4:gotB l j with | false=>rfl | true=>exact absurd hg ((got_nd l j).1 h4)
         rw[nodeL_no h3];refine congrArg NodeL.links (nodeL_no ?_)
         cases h4:gotB (l.set j (dropN zeroN s.name)) j with
         | false=>rfl
         | true =>
            have:=(got_nd _ j).1 h4;rw[nd_set hlt,if_pos rfl]at this;exact absurd rfl this
       · have e1:=nodeL_nd hg
         rw[e1];rw[nodeL_nd (by rw[nd_set hlt,if_pos rfl];exact hg),nd_set hlt,if_pos rfl];rfl
     · have e1:nd (l.set k (dropN (nodeL l k) s.name)) j=nd l j:=by rw[nd_set hlt,if_neg hj]
       cases h4:gotB l j with
       | true =>
          have h5:=(got_nd l j).1 h4;rw[nodeL_nd h5,nodeL_nd (by rw[e1];exact h5),e1]
       | false =>
          have h5:gotB (l.set k (dropN (nodeL l k) s.name)) j=false:=by
           cases h6:gotB (l.set k (dropN (nodeL l k) s.name)) j with
           | false=>rfl
           | true =>
              have:=(got_nd _ j).1 h6;rw[e1]at this;rw[(got_nd l j).2 this]at h4
              cases h4
          rw[nodeL_no h4,nodeL_no h5]
 · rfl
theorem Dsk.wrap {l:List NodeL}(h:Dsk l)(s:SpotL):IntKind.i64.wrap ((nodeL (droppedL l s) s.ino).links-1)=(nodeL (droppedL l s) s.ino).links-1:=by
 rw[drop_links];have:=links_small h s.ino;exact Go.IntWalk.i64_in _ (by omega)
theorem GivesX.none {X:Nat→Prop}{l:List NodeL}{v:Value}{W:World}(h:GivesX X l v W):GivesX (fun _=>False) l v W:=h.sub fun _ h=>h.elim
theorem set_g (X:Nat→Prop)(l:List NodeL)(most room i:Int)(n:NodeL)(v vn:Value)(W:World)(hX:Old X W)(hg:GivesX X l v W)(hl:l.length≤10000)(hn:NodeX X n vn W)(hnl:n.names.length≤10000) :
 Calls Tryz.prog 33 #[.agg #[v, .int .i64 most, .int .i64 room], .int .i64 i,nval n vn] W fun e w'=>RDiskIs X (setL l i n) most room e W w':=by
 obtain⟨m,rfl,h,ha⟩:=hg;refine(set_any v m most room i n vn W h (by rw[←pl_len];exact hl) hn.1 hnl).mono ?_;rintro e w' ⟨v',ms',rfl,hp,hr,hb,hav⟩;have hG:GivesX X (setL (pl m) i n) v' w':=⟨ms',hp,hr,fun g hx=>hav g (hX g hx) (ha g hx)⟩;obtain⟨ao,cap,rfl⟩:=gives_form hG;exact⟨ao,cap,rfl,hG,hb⟩
theorem get_g (X:Nat→Prop)(l:List NodeL)(most room i:Int)(v:Value)(W:World)(hX:Old X W)(hg:GivesX X l v W)(hl:l.length≤10000)(hnl : ∀n∈l,n.names.length≤10000) :
 Calls Tryz.prog 32 #[.agg #[v, .int .i64 most, .int .i64 room], .int .i64 i] W fun e w'=>∃ao cap,e = .returned (.tuple #[nval (nodeL l i) (.slice ao (nodeL l i).names.length cap), .bool (gotB l i)])∧NodeX X (nodeL l i) (.slice ao (nodeL l i).names.length cap) w'∧Below W.heap.size W w':=by
 obtain⟨m,rfl,h,ha⟩:=hg;refine(get_new v m most room i W h (by rw[←pl_len];exact hl) hnl).mono ?_;rintro e w' ⟨v1,rfl,hr,hb,hnew⟩;(have hgl:getL (pl m) i=nodeL (pl m) i:=by unfold getL nodeL;cases gotB (pl m) i<;>rfl);rw[hgl]at hr ⊢
 have hN:NodeX X (nodeL (pl m) i) v1 w':=⟨hr,fun g hx=>by
  rintro a n c rfl _ e;have h1:W.heap.size≤a.block:=hnew a.block rfl;have h2:=hX g hx
  omega⟩
 obtain⟨ao,cap,rfl⟩:=node_form hN;exact⟨ao,cap,rfl,hN,hb⟩
end Go.Proofs.YtpbmbpefophlfaaGreatDoor
namespace Go.Proofs.YtpbmbpefophlfaaGreatDoor
structure Entered (l l':List NodeL) (who fr:Int) (path:Str) (s:SpotL) (d p:Nat) (n:NodeL):Prop where
 sd:s.dir=d
 dk:(nd l d).kind=2
 p0:p≠0
 pd:p≠d
 pk:(nd l p).kind=0
 leg:legalL s.name=0
 fn:findL (nd l d).names s.name=none
 si:s.ino = -1
 nds : ∀j,nd l' j=if j=d then putN (nd l d) s.name p else if j=p then n else nd l j
 rig:Rig l'
 walk:walkL l' who fr path false=(⟨s.dir,s.name,p,s.slash⟩,0)
 wr:writesL l who d=true
 len:l.length≤l'.length∧l'.length≤l.length+1
end Go.Proofs.YtpbmbpefophlfaaGreatDoor
namespace Go.Proofs.YtpbmbpefophlfaaGreatDoor
def Siz (a c:Nat)(l:List NodeL):Prop:=l.length≤a∧∀n∈l,n.data.length≤2000∧n.names.length≤c
theorem Siz.mono {a c a' c':Nat}{l:List NodeL}(h:Siz a c l)(ha:a≤a')(hc:c≤c'):Siz a' c' l :=
 ⟨Nat.le_trans h.1 ha,fun n hn=>⟨(h.2 n hn).1,Nat.le_trans (h.2 n hn).2 hc⟩⟩
theorem Siz.set {a c:Nat}{l:List NodeL}(h:Siz a c l){n:NodeL}(hn:n.data.length≤2000∧n.names.length≤c)(i:Int):Siz a c (setL l i n):=by
 unfold setL;split
 · refine⟨by rw[List.length_set];exact h.1,fun m hm=> ?_⟩
   rcases List.mem_or_eq_of_mem_set hm with hm | rfl
   · exact h.2 m hm
   · exact hn
 · exact h
theorem Siz.node {a c:Nat}{l:List NodeL}(h:Siz a c l)(i:Int):(nodeL l i).data.length≤2000∧(nodeL l i).names.length≤c:=by
 unfold nodeL;split
 · rename_i hg
   obtain⟨k,rfl,hlt,_⟩:=got_nat hg;rw[at_nd,nd_lt hlt];exact h.2 _ (List.getElem_mem hlt)
 · exact⟨Nat.zero_le _,Nat.zero_le _⟩
theorem Siz.settle {a c:Nat}{l:List NodeL}(h:Siz a c l)(i:Int):Siz a c (settleL l i):=by
 unfold settleL;split
 · exact h.set ⟨Nat.zero_le _,Nat.zero_le _⟩ i
 · exact h
theorem Siz.add {a c:Nat}{l:List NodeL}(h:Siz a c l){n:NodeL}(hn:n.data.length≤2000∧n.names.length≤c)(most room:Int):Siz (a+1) c (addL l most room n):=by
 unfold addL;split
 · exact h.mono (Nat.le_succ a) (Nat.le_refl c)
 · split
   · refine⟨by rw[List.length_append,List.length_singleton];have:=h.1;omega,fun m hm=> ?_⟩
     rcases List.mem_append.1 hm with hm | hm
     · exact h.2 m hm
     · obtain rfl:=List.mem_singleton.1 hm
       exact hn
   · refine⟨by rw[List.length_set];have:=h.1;omega,fun m hm=> ?_⟩
     rcases List.mem_or_eq_of_mem_set hm with hm | rfl
     · exact h.2 m hm
     · exact hn
theorem Rig.legal {l:List NodeL}(h:RightP l) : ∀n∈l,∀e∈n.names,e.1.length≤12:=by
 intro n hn e he;obtain⟨k,hk,rfl⟩:=List.mem_iff_getElem.1 hn;have:=Rig.sorted (Rig.of h).1 k;rw[nd_lt hk]at this;exact legal_len (this.1 e he)
end Go.Proofs.YtpbmbpefophlfaaGreatDoor
namespace Go.Proofs.YtpbmbpefophlfaaGreatDoor
open Go.RowKit Go.Shelf
attribute [local go_sem ↓] Go.wp_at_zero Go.wp_at_succ
theorem one_g {X:Nat→Prop}{w:World}{l:List NodeL}{v:Value}(hg:GivesX X l v w) : ∀x∈ [(l,v)],GivesX X x.1 x.2 w:=fun x hx=>by rw[List.mem_singleton]at hx;subst hx;exact hg
theorem no_n {X:Nat→Prop}{w:World} : ∀x∈([]:List (NodeL × Value)),NodeX X x.1 x.2 w:=fun _ h=>by cases h
end Go.Proofs.YtpbmbpefophlfaaGreatDoor
