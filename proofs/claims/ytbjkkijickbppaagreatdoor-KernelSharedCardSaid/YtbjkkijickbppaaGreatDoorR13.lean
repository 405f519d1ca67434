import Derived.Test.YtbjkkijickbppaaGreatDoorR12
import Derived.Test.YtbjkkijickbppaaGreatDoorR11
import Derived.Deep.RegionHeld3
import Derived.Deep.RegionLaw
import Derived.Handy
namespace Go.Proofs.YtbjkkijickbppaaGreatDoor
open Go.RowKit Go.Shelf
abbrev NodeM:=NodeL × Value
abbrev nval (n:NodeL)(v:Value):Value:= .agg #[.int .i64 n.kind, .int .i64 n.mode, .int .i64 n.owner, .int .i64 n.links, .int .i64 n.opn, .int .i64 n.up, .string (bs n.data),v]
def ncells (m:NodeM):List Value:= [.int .i64 m.1.kind, .int .i64 m.1.mode, .int .i64 m.1.owner, .int .i64 m.1.links, .int .i64 m.1.opn, .int .i64 m.1.up, .string (bs m.1.data),m.2]
def cellsN (ms:List NodeM):List Value:=ms.flatMap ncells
theorem cellsN_app (a b:List NodeM):cellsN (a++b)=cellsN a++cellsN b:=by simp[cellsN]
theorem cellsN_at (ms:List NodeM)(k:Nat)(h:k<ms.length)(j:Nat)(hj:j<8):(cellsN ms)[k*8+j]? = (ncells ms[k])[j]?:= by
 induction ms generalizing k with
 | nil=>simp at h
 | cons m ms ih =>
    (have e:cellsN (m::ms)=ncells m++cellsN ms:=by simp[cellsN]);have l8:(ncells m).length=8:=rfl;rw[e]
    cases k with
    | zero =>
       rw[List.getElem?_append_left (by omega)];simp
    | succ k =>
       rw[List.getElem?_append_right (by omega),l8,show(k+1)*8+j-8=k*8+j by omega];exact ih k (by simpa using h)
def OneM (ms:List NodeM):Prop:=∀m∈ms,m.2.oneCell'=true
theorem own_one {W:World}{base:Nat}{e:TypeId}{size n:Nat}{v:Value}{xs:List Value}(h:W.ownsRow base e size v n xs):v.oneCell'=true:=by
 obtain⟨ao,cap,rfl⟩:=own_form h;rfl
theorem ncells_one {W:World}{base:Nat}{e:TypeId}{size k:Nat}{n:NodeL}{v:Value}{xs:List Value}(h:W.ownsRow base e size v k xs) : ∀u∈ncells (n,v),u.oneCell'=true:=by
 intro u hu;simp only[ncells,List.mem_cons,List.not_mem_nil,or_false]at hu;rcases hu with rfl | rfl | rfl | rfl | rfl | rfl | rfl | rfl
 all_goals first | rfl | exact own_one h
def RdNm (B:Nat)(m:NodeM)(W:World):Prop:=Rd B 2 m.2 m.1.names.length (ents m.1.names) W
def RdM (B:Nat)(v:Value)(ms:List NodeM)(W:World):Prop:=Rd B 8 v ms.length (cellsN ms) W∧∀m∈ms,RdNm B m W
theorem RdM.below {B:Nat}{v:Value}{ms:List NodeM}{W W':World}(h:RdM B v ms W)(hb:Below B W W'):RdM B v ms W':=⟨h.1.below hb,fun m hm=>Rd.below (h.2 m hm) hb⟩
theorem RdM.mono {B B':Nat}{v:Value}{ms:List NodeM}{W:World}(h:RdM B v ms W)(hb:B≤B'):RdM B' v ms W:=⟨h.1.mono hb,fun m hm=>Rd.mono (h.2 m hm) hb⟩
theorem ret_tr {w w1 w2:World}(h1:Below w.heap.size w w1)(h2:Below w1.heap.size w1 w2):Below w.heap.size w w2:=h1.trans (h2.mono h1.size)
theorem rd_keep {size n:Nat}{v:Value}{xs:List Value}{W W':World}(h:Rd W.heap.size size v n xs W)(hb:Below W.heap.size W W'):Rd W'.heap.size size v n xs W':=(h.below hb).mono hb.size
theorem rdm_keep {v:Value}{ms:List NodeM}{W W':World}(h:RdM W.heap.size v ms W)(hb:Below W.heap.size W W'):RdM W'.heap.size v ms W':=(h.below hb).mono hb.size
theorem rdnm_keep {m:NodeM}{W W':World}(h:RdNm W.heap.size m W)(hb:Below W.heap.size W W'):RdNm W'.heap.size m W':=(Rd.below h hb).mono hb.size
theorem rd_slice {B size n:Nat}{v:Value}{xs:List Value}{W:World}(h:Rd B size v n xs W):v.oneCell'=true:=by
 obtain⟨ao,cap,rfl,_⟩:=h;rfl
theorem RdM.one {B:Nat}{v:Value}{ms:List NodeM}{W:World}(h:RdM B v ms W):OneM ms:=fun m hm=>rd_slice (h.2 m hm)
theorem eight {b off:Nat}{ms:List NodeM}{W:World}(hc : ∀j u,(cellsN ms)[j]? = some u→W.cell? ⟨b,off+j,none⟩=some u)(k:Nat)(h:k<ms.length) :
 W.cell? ⟨b,off+k*8,none⟩=some (.int .i64 ms[k].1.kind)∧W.cell? ⟨b,off+k*8+1,none⟩=some (.int .i64 ms[k].1.mode)∧W.cell? ⟨b,off+k*8+2,none⟩=some (.int .i64 ms[k].1.owner)∧W.cell? ⟨b,off+k*8+3,none⟩=some (.int .i64 ms[k].1.links)
 ∧ W.cell? ⟨b,off+k*8+4,none⟩=some (.int .i64 ms[k].1.opn)∧W.cell? ⟨b,off+k*8+5,none⟩=some (.int .i64 ms[k].1.up)∧W.cell? ⟨b,off+k*8+6,none⟩=some (.string (bs ms[k].1.data))∧W.cell? ⟨b,off+k*8+7,none⟩=some ms[k].2:=by
 refine⟨hc _ _ (cellsN_at ms k h 0 (by decide)),?_,?_,?_,?_,?_,?_,?_⟩
 all_goals (rw[Nat.add_assoc];exact hc _ _ (cellsN_at ms k h _ (by decide)))
theorem rdm_form {B:Nat}{v:Value}{ms:List NodeM}{W:World}(h:RdM B v ms W) : ∃ao cap,v = .slice ao ms.length cap∧ms.length≤cap∧cap≤maxLen:=h.1.form
def pl (ms:List NodeM):List NodeL:=ms.map (·.1)
theorem pl_len (ms:List NodeM):(pl ms).length=ms.length:=by simp[pl]
theorem pl_at (ms:List NodeM)(k:Nat)(h:k<ms.length):(pl ms)[k]'(by rw[pl_len];exact h)=ms[k].1:=by simp[pl]
theorem node_at {B:Nat}{ao:Option Addr}{cap:Nat}{ms:List NodeM}{W:World}(h:RdM B (.slice ao ms.length cap) ms W)(k:Nat)(hk:k<ms.length) :
 ∃(b off:Nat) (n:NodeL) (aon:Option Addr) (capn:Nat),ao=some ⟨b,off,none⟩∧b<B∧(pl ms)[k]'(by rw[pl_len];exact hk)=n∧ms[k]=(n, .slice aon n.names.length capn)∧Rd B 2 (.slice aon n.names.length capn) n.names.length (ents n.names) W
  ∧ W.cell? ⟨b,off+k*8,none⟩=some (.int .i64 n.kind)∧W.cell? ⟨b,off+k*8+1,none⟩=some (.int .i64 n.mode)∧W.cell? ⟨b,off+k*8+2,none⟩=some (.int .i64 n.owner)∧W.cell? ⟨b,off+k*8+3,none⟩=some (.int .i64 n.links)
  ∧ W.cell? ⟨b,off+k*8+4,none⟩=some (.int .i64 n.opn)∧W.cell? ⟨b,off+k*8+5,none⟩=some (.int .i64 n.up)∧W.cell? ⟨b,off+k*8+6,none⟩=some (.string (bs n.data))∧W.cell? ⟨b,off+k*8+7,none⟩=some (.slice aon n.names.length capn):=by
 obtain⟨b,off,cap',e,_,_,hb,_,hc⟩:=h.1.at (by omega);injection e with e1 _ e2;subst e1;subst e2;have h8:=eight hc k hk;have hr:Rd B 2 ms[k].2 ms[k].1.names.length (ents ms[k].1.names) W:=h.2 _ (List.getElem_mem hk);obtain⟨aon,capn,e,_,_⟩:=hr.form;refine⟨b,off,ms[k].1,aon,capn,rfl,hb,pl_at ms k hk,Prod.ext rfl e,by rw[←e];exact hr,?_⟩;rw[←e];exact h8
def GivesN (l:List NodeL)(v:Value)(W:World):Prop:=∃ms,pl ms=l∧RdM W.heap.size v ms W
theorem GivesN.keep {l:List NodeL}{v:Value}{W W':World}(h:GivesN l v W)(hb:Below W.heap.size W W'):GivesN l v W':=by
 obtain⟨ms,h1,h2⟩:=h;exact⟨ms,h1,rdm_keep h2 hb⟩
theorem heap_set {W:World}{b:Nat}{t:TypeId}{cs:Array Value}{i:Nat}{u:Value}(h:W.heap[b]? = some (.cells cs t (0,0))):(W.setCell ⟨b,i,none⟩ u).heap[b]? = some (.cells (cs.setIfInBounds i u) t (0,0)):=by
 simp[World.setCell,Array.getElem?_modify,h]
theorem sets8 {P:World→Prop}{W:World}{b:Nat}{u0 u1 u2 u3 u4 u5 u6 u7 r0 r1 r2 r3 r4 r5 r6 r7:Value}{t:TypeId}(hb:W.heap[b]? = some (.cells #[r0,r1,r2,r3,r4,r5,r6,r7] t (0,0)))
 (h : ∀W',Below b W W'→(∀g,g≠b→W'.heap[g]? = W.heap[g]?)→W'.heap.size=W.heap.size→W'.heap[b]? = some (.cells #[u0,u1,u2,u3,u4,u5,u6,u7] t (0,0))→P W'):P ((((((((W.setCell ⟨b,0,none⟩ u0).setCell ⟨b,1,none⟩ u1).setCell ⟨b,2,none⟩ u2).setCell ⟨b,3,none⟩ u3).setCell ⟨b,4,none⟩ u4).setCell ⟨b,5,none⟩ u5).setCell ⟨b,6,none⟩ u6).setCell ⟨b,7,none⟩ u7):=by
  refine h _ ?_ (fun g hg=> ?_) (by simp[World.setCell]) ?_
  · exact(((((((((Below.refl b W).setCell (p:=⟨b,0,none⟩) (Nat.le_refl _) u0).setCell (p:=⟨b,1,none⟩) (Nat.le_refl _) u1).setCell (p:=⟨b,2,none⟩) (Nat.le_refl _) u2).setCell (p:=⟨b,3,none⟩) (Nat.le_refl _) u3).setCell (p:=⟨b,4,none⟩) (Nat.le_refl _) u4).setCell (p:=⟨b,5,none⟩) (Nat.le_refl _) u5).setCell (p:=⟨b,6,none⟩) (Nat.le_refl _) u6).setCell (p:=⟨b,7,none⟩) (Nat.le_refl _) u7)
  · exact(Below.heap_setCell _ _ _ g hg).trans ((Below.heap_setCell _ _ _ g hg).trans ((Below.heap_setCell _ _ _ g hg).trans ((Below.heap_setCell _ _ _ g hg).trans ((Below.heap_setCell _ _ _ g hg).trans ((Below.heap_setCell _ _ _ g hg).trans ((Below.heap_setCell _ _ _ g hg).trans (Below.heap_setCell _ _ _ g hg)))))))
  · refine(heap_set (heap_set (heap_set (heap_set (heap_set (heap_set (heap_set (heap_set (hb))))))))).trans ?_
    simp
theorem sets3 {P:World→Prop}{W:World}{b:Nat}{u0 u1 u2 r0 r1 r2:Value}{t:TypeId}(hb:W.heap[b]? = some (.cells #[r0,r1,r2] t (0,0)))
 (h : ∀W',Below b W W'→(∀g,g≠b→W'.heap[g]? = W.heap[g]?)→W'.heap.size=W.heap.size→W'.heap[b]? = some (.cells #[u0,u1,u2] t (0,0))→P W'):P (((W.setCell ⟨b,0,none⟩ u0).setCell ⟨b,1,none⟩ u1).setCell ⟨b,2,none⟩ u2):=by
  refine h _ ?_ (fun g hg=> ?_) (by simp[World.setCell]) ?_
  · exact((((Below.refl b W).setCell (p:=⟨b,0,none⟩) (Nat.le_refl _) u0).setCell (p:=⟨b,1,none⟩) (Nat.le_refl _) u1).setCell (p:=⟨b,2,none⟩) (Nat.le_refl _) u2)
  · exact(Below.heap_setCell _ _ _ g hg).trans ((Below.heap_setCell _ _ _ g hg).trans (Below.heap_setCell _ _ _ g hg))
  · refine(heap_set (heap_set (heap_set (hb)))).trans ?_
    simp
theorem cells8 {W:World}{b:Nat}{u0 u1 u2 u3 u4 u5 u6 u7:Value}{t:TypeId}{f:Nat × Nat}(h:W.heap[b]? = some (.cells #[u0,u1,u2,u3,u4,u5,u6,u7] t f)) :
 W.cell? ⟨b,0,none⟩=some u0∧W.cell? ⟨b,1,none⟩=some u1∧W.cell? ⟨b,2,none⟩=some u2∧W.cell? ⟨b,3,none⟩=some u3∧W.cell? ⟨b,4,none⟩=some u4∧W.cell? ⟨b,5,none⟩=some u5∧W.cell? ⟨b,6,none⟩=some u6∧W.cell? ⟨b,7,none⟩=some u7:=by
 refine⟨?_,?_,?_,?_,?_,?_,?_,?_⟩<;>(rw[Lib.cell_of_heap h];rfl)
theorem cells3 {W:World}{b:Nat}{u0 u1 u2:Value}{t:TypeId}{f:Nat × Nat}(h:W.heap[b]? = some (.cells #[u0,u1,u2] t f)) :
 W.cell? ⟨b,0,none⟩=some u0∧W.cell? ⟨b,1,none⟩=some u1∧W.cell? ⟨b,2,none⟩=some u2:=by
 refine⟨?_,?_,?_⟩<;>(rw[Lib.cell_of_heap h];rfl)
theorem fresh1 {P:World→Prop}{w:World}{A:Obj}(h : ∀W,Below w.heap.size w W→W.heap[w.heap.size]? = some A→W.heap.size=w.heap.size+1→P W):P (w.alloc A) :=
 h _ ((Below.refl _ w).alloc (Nat.le_refl _) _) (heap_alloc_new w A) (by simp)
theorem fresh2 {P:World→Prop}{w:World}{A B:Obj}(h : ∀W,Below w.heap.size w W→W.heap[w.heap.size]? = some A→W.heap[w.heap.size+1]? = some B→W.heap.size=w.heap.size+2→P W):P ((w.alloc A).alloc B) :=
 fresh1 fun _ b1 h1 s1=>h _ (((Below.refl _ w).alloc (Nat.le_refl _) A).trans (b1.mono (by simp))) ((b1.block _ (by simp)).trans (heap_alloc_new w A)) (by simpa using h1) (by simpa using s1)
theorem fresh3 {P:World→Prop}{w:World}{A B C:Obj}(h : ∀W,Below w.heap.size w W→W.heap[w.heap.size]? = some A→W.heap[w.heap.size+1]? = some B→W.heap[w.heap.size+2]? = some C→W.heap.size=w.heap.size+3→P W):P (((w.alloc A).alloc B).alloc C) :=
 fresh1 fun _ b1 h1 s1=>h _ ((((Below.refl _ w).alloc (Nat.le_refl _) A).alloc (by simp) B).trans (b1.mono (by simp;omega))) ((b1.block _ (by simp;omega)).trans (((Below.refl _ _).alloc (Nat.le_refl _) B).block _ (by simp) |>.trans (heap_alloc_new w A)))
  ((b1.block _ (by simp)).trans (by have:=heap_alloc_new (w.alloc A) B;simpa using this)) (by simpa using h1) (by simpa using s1)
end Go.Proofs.YtbjkkijickbppaaGreatDoor
namespace Go.Proofs.YtbjkkijickbppaaGreatDoor
open Go.RowKit Go.Shelf
abbrev codes:List Nat:= [1,2,3,4,5,6,7,9,11,15]
structure Sent (S:Nat→Addr) (W:World):Prop where
 e1:W.cell? ⟨6,0,none⟩=some (sentV (S 1))
 e2:W.cell? ⟨1,0,none⟩=some (sentV (S 2))
 e3:W.cell? ⟨7,0,none⟩=some (sentV (S 3))
 e4:W.cell? ⟨4,0,none⟩=some (sentV (S 4))
 e5:W.cell? ⟨8,0,none⟩=some (sentV (S 5))
 e6:W.cell? ⟨5,0,none⟩=some (sentV (S 6))
 e7:W.cell? ⟨3,0,none⟩=some (sentV (S 7))
 e9:W.cell? ⟨2,0,none⟩=some (sentV (S 9))
 e11:W.cell? ⟨9,0,none⟩=some (sentV (S 11))
 e15:W.cell? ⟨10,0,none⟩=some (sentV (S 15))
 blk : ∀k∈codes,∃c t,W.heap[(S k).block]? = some (.cells c t (0,0))
 inj : ∀j∈codes,∀k∈codes,j≠k→S j≠S k
 err:W.cell? ⟨0,0,none⟩=some errTypeV
theorem Sent.keep {S:Nat→Addr}{W W':World}(h:Sent S W)(hb:Below W.heap.size W W'):Sent S W' where
 e1:=(hb.cell (p:=⟨6,0,none⟩) (World.block_lt_of_cell? W _ h.e1)).trans h.e1
 e2:=(hb.cell (p:=⟨1,0,none⟩) (World.block_lt_of_cell? W _ h.e2)).trans h.e2
 e3:=(hb.cell (p:=⟨7,0,none⟩) (World.block_lt_of_cell? W _ h.e3)).trans h.e3
 e4:=(hb.cell (p:=⟨4,0,none⟩) (World.block_lt_of_cell? W _ h.e4)).trans h.e4
 e5:=(hb.cell (p:=⟨8,0,none⟩) (World.block_lt_of_cell? W _ h.e5)).trans h.e5
 e6:=(hb.cell (p:=⟨5,0,none⟩) (World.block_lt_of_cell? W _ h.e6)).trans h.e6
 e7:=(hb.cell (p:=⟨3,0,none⟩) (World.block_lt_of_cell? W _ h.e7)).trans h.e7
 e9:=(hb.cell (p:=⟨2,0,none⟩) (World.block_lt_of_cell? W _ h.e9)).trans h.e9
 e11:=(hb.cell (p:=⟨9,0,none⟩) (World.block_lt_of_cell? W _ h.e11)).trans h.e11
 e15:=(hb.cell (p:=⟨10,0,none⟩) (World.block_lt_of_cell? W _ h.e15)).trans h.e15
 blk:=fun k hk=>by
  obtain⟨c,t,hc⟩:=h.blk k hk;exact⟨c,t,(hb.block _ (Array.getElem?_eq_some_iff.1 hc).1).trans hc⟩
 inj:=h.inj
 err:=(hb.cell (p:=⟨0,0,none⟩) (World.block_lt_of_cell? W _ h.err)).trans h.err
def ErrIs (S:Nat→Addr)(n:Int)(v:Value):Prop :=
 (n=0∧v = .nilIface)∨(n≠0∧∃p,v=unmetV p (belowV n))∨(∃k∈codes,n=(k:Int)∧∃p,v=unmetV p (sentV (S k)))
theorem ErrIs.nil {S:Nat→Addr}:ErrIs S 0 .nilIface:= .inl ⟨rfl,rfl⟩
theorem ErrIs.sent {S:Nat→Addr}(k:Nat)(hk:k∈codes)(p:ByteArray):ErrIs S (k:Int) (unmetV p (sentV (S k))):= .inr (.inr ⟨k,hk,rfl,p,rfl⟩)
theorem ErrIs.below {S:Nat→Addr}{n:Int}(h:n≠0)(p:ByteArray):ErrIs S n (unmetV p (belowV n)):= .inr (.inl ⟨h,p,rfl⟩)
theorem code_pos {k:Nat}(h:k∈codes):k≠0:=by rintro rfl;revert h;decide
theorem ErrIs.form {S:Nat→Addr}{n:Int}{v:Value}(h:ErrIs S n v):(n=0∧v = .nilIface)∨(n≠0∧∃p c,v=unmetV p c):=by
 rcases h with h | ⟨h,p,rfl⟩ | ⟨k,hk,rfl,p,rfl⟩
 · exact .inl h
 · exact .inr ⟨h,p,_,rfl⟩
 · exact .inr ⟨by have:=code_pos hk;omega,p,_,rfl⟩
end Go.Proofs.YtbjkkijickbppaaGreatDoor
namespace Go.Proofs.YtbjkkijickbppaaGreatDoor
open Go.RowKit Go.Shelf
attribute [local go_sem ↓] Go.wp_at_zero Go.wp_at_succ
def withinB (n a b:Int):Bool:=decide (a≤n) && decide (n≤b)
set_option maxRecDepth 100000 in
theorem within_any (n a b:Int)(w:World):Calls Tryz.prog 32 #[.int .i64 n, .int .i64 a, .int .i64 b] w fun e w'=>e = .returned (.bool (withinB n a b))∧w=w':=by
 unfold withinB;by_cases h1:a≤n
 · have hI:decide (a≤n)=true:=by simpa using h1
   clear h1;go_enter Tryz.func32,Tryz.ntmps32;go_wp2_with fail;go_ret;exact⟨ret_bool (by rw[hI];rfl),rfl⟩
 · have hI:decide (a≤n)=false:=by simpa using h1
   go_enter Tryz.func32,Tryz.ntmps32;go_wp2_with fail;go_ret;exact⟨ret_bool (by simp),rfl⟩
set_option maxRecDepth 100000 in
theorem free_any (n:NodeL)(v:Value)(w:World):Calls Tryz.prog 49 #[nval n v] w fun e w'=>e = .returned (.bool (decide (n.kind=0)))∧Below w.heap.size w w':=by
 go_enter Tryz.func49,Tryz.ntmps49;go_wp2_with fail;go_ret;exact⟨ret_bool rfl,(Below.refl _ w).alloc (Nat.le_refl _) _⟩
set_option maxRecDepth 100000 in
theorem weight_any (n:NodeL)(v:Value)(w:World):Calls Tryz.prog 75 #[nval n v] w fun e w'=>e = .returned (.int .i64 (weightL n))∧Below w.heap.size w w':=by
 by_cases h1:n.kind=1
 · have hI:(n.kind == 1)=true:=by simpa using h1
   have HW:Hid (weightL n=n.data.length):=Lib.hid (by simp[weightL,h1]);clear h1;go_enter Tryz.func75,Tryz.ntmps75;go_wp2_with fail;go_ret;exact⟨ret_int (by rw[HW.out]),(Below.refl _ w).alloc (Nat.le_refl _) _⟩
 (have hI:(n.kind == 1)=false:=by simpa using h1);by_cases h3:n.kind=3
 · have hJ:(n.kind == 3)=true:=by simpa using h3
   have HW:Hid (weightL n=n.data.length):=Lib.hid (by simp[weightL,h3]);clear h1 h3;go_enter Tryz.func75,Tryz.ntmps75;go_wp2_with fail;go_ret;exact⟨ret_int (by rw[HW.out]),(Below.refl _ w).alloc (Nat.le_refl _) _⟩
 · have hJ:(n.kind == 3)=false:=by simpa using h3
   have HW:Hid (weightL n=0):=Lib.hid (by simp[weightL,h1,h3]);clear h1 h3;go_enter Tryz.func75,Tryz.ntmps75;go_wp2_with fail;go_ret;exact⟨ret_int (by rw[HW.out];rfl),(Below.refl _ w).alloc (Nat.le_refl _) _⟩
theorem within_in (l:List NodeL)(j:Int)(k:Nat)(h:k=l.length):withinB j 0 ((k:Int)-1)=inL l j:=by
 subst h;unfold withinB inL;congr 1;rw[Bool.eq_iff_iff,decide_eq_true_iff,decide_eq_true_iff];omega
set_option maxRecDepth 100000 in
theorem has_any (l:List NodeL)(ao:Option Addr)(n cap:Nat)(most room j:Int)(w:World)(hn:n=l.length)(hl:n≤65000):Calls Tryz.prog 81 #[.agg #[.slice ao n cap, .int .i64 most, .int .i64 room], .int .i64 j] w fun e w'=>e = .returned (.bool (inL l j))∧Below w.heap.size w w':=by
 subst hn;have HI:=Lib.hid (within_in l j _ rfl);go_enter Tryz.func81,Tryz.ntmps81;go_wp2_with fail;refine(within_any _ _ _ _).mono ?_;rintro e w1 ⟨rfl,rfl⟩;go_wp2_with fail;go_ret;exact⟨ret_bool HI.out,(Below.refl _ w).alloc (Nat.le_refl _) _⟩
theorem bytes_at {ms:List NodeM}(hs:Small (pl ms))(k:Nat)(h:k<ms.length):bytesL ((pl ms).take k)≤220000∧bytesL ((pl ms).take (k+1))=bytesL ((pl ms).take k)+weightL ((pl ms)[k]'(by rw[pl_len];exact h))∧weightL ((pl ms)[k]'(by rw[pl_len];exact h))≤2000 :=
 ⟨bytes_take_le hs k,bytes_succ (pl ms) k (by rw[pl_len];exact h),weight_le (hs.2 _ (List.getElem_mem _))⟩
set_option maxRecDepth 100000 in
set_option maxHeartbeats 1000000 in
theorem rbytes_any (v:Value)(ms:List NodeM)(most room:Int)(w:World)(hv:RdM w.heap.size v ms w)(hsm:Small (pl ms)) :
 Calls Tryz.prog 29 #[.agg #[v, .int .i64 most, .int .i64 room]] w fun e w'=>e = .returned (.int .i64 (bytesL (pl ms)))∧Below w.heap.size w w':=by
 obtain⟨ao,cap,rfl,_,_⟩:=rdm_form hv;(have hl:ms.length≤110:=by have:=hsm.1;rwa [pl_len]at this);have HS:=Lib.hid hsm;have HV:=Lib.hid hv;clear hv hsm;go_enter Tryz.func29,Tryz.ntmps29;go_wp2_with fail;have hb0:Below w.heap.size w (w.alloc (.cells #[.slice ao ms.length cap, .int .i64 most, .int .i64 room] 48)):=(Below.refl _ w).alloc (Nat.le_refl _) _;have hbF:=heap_alloc_new w (.cells #[.slice ao ms.length cap, .int .i64 most, .int .i64 room] 48);(have hsz:w.heap.size<(w.alloc (.cells #[.slice ao ms.length cap, .int .i64 most, .int .i64 room] 48)).heap.size:=by simp);generalize w.alloc (.cells #[.slice ao ms.length cap, .int .i64 most, .int .i64 room] 48)=W0 at *;go_loopw [3,4] (fun z i wr=>∃k:Nat,i = .int .i64 k∧k≤ms.length∧z = .int .i64 (bytesL ((pl ms).take k))∧Below W0.heap.size W0 wr) (fun _ i _=>ms.length-(intOf i).toNat)
 case atStart=>exact⟨0,rfl,Nat.zero_le _,rfl,Below.refl _ _⟩
 case round =>
  obtain⟨k,rfl,hk,rfl,hBr⟩:=hrel;have sB:=hBr.size;(have d0:wr.cell? ⟨w.heap.size,0,none⟩=some (.slice ao ms.length cap):=by rw[Lib.cell_of_heap ((hBr.block _ hsz).trans hbF)];rfl);have hBw:Below w.heap.size w wr:=hb0.trans (hBr.mono (by omega));by_cases hlt:k<ms.length
  · obtain⟨b,off,n,aon,capn,rfl,hb,hn, -, -,c0,c1,c2,c3,c4,c5,c6,c7⟩:=node_at (HV.out.below hBw) k hlt
    obtain⟨hle,hs,hw⟩:=bytes_at HS.out k hlt;rw[hn]at hs hw;have HQ:=Lib.hid hs;clear hs hn;generalize bytesL ((pl ms).take k)=z at *;go_wp2_with fail;refine(weight_any n _ _).mono ?_;rintro e w1 ⟨rfl,hb2⟩;have hb3:=ret_tr hBr hb2;go_wp2_with fail;go_roundw
    case rel=>exact⟨k+1,by go_num,hlt,by rw[HQ.out];go_num,hb3⟩
    case measure=>simp[intOf];omega
  · have hke:k=ms.length:=by omega
    have HT:Hid ((pl ms).take k=pl ms):=Lib.hid (by rw[hke,←pl_len,List.take_length]);(have hI2:decide (k<ms.length)=false:=by simp;omega);clear hke hlt;go_wp2_with fail;go_ret;exact⟨ret_int (by rw[HT.out]),hBw⟩
end Go.Proofs.YtbjkkijickbppaaGreatDoor
namespace Go.Proofs.YtbjkkijickbppaaGreatDoor
open Go.RowKit Go.Shelf Go.Lib
attribute [local go_sem ↓] Go.wp_at_zero Go.wp_at_succ
theorem ownsRow_grown {W W':World}{base:Nat}{e:TypeId}{size n:Nat}{v:Value}{xs:List Value}{row:Option Nat}(h:W.ownsRow base e size v n xs)(hg:W.grownBy W' row)(hne : ∀g,v.ownBlock=some g→row≠some g):W'.ownsRow base e size v n xs:=by
 refine⟨h.1,h.2.imp id ?_⟩;rintro⟨g,cap,cur,rfl,h2,h3,h4⟩;exact⟨g,cap,cur,rfl,h2,(hg.block g (Array.getElem?_eq_some_iff.1 h3).1 (fun e=>hne g rfl e.symm)).trans h3,h4⟩
theorem own_ne {W:World}{b1 b2:Nat}{e1 e2:TypeId}{s1 s2 n1 n2:Nat}{v1 v2:Value}{x1 x2:List Value}(h:W.ownsRow b1 e1 s1 v1 n1 x1)(h':W.ownsRow b2 e2 s2 v2 n2 x2)(hne:e1≠e2) : ∀g,v1.ownBlock=some g→v2.ownBlock≠some g:=by
 intro g hg hg';rcases h.2 with⟨rfl,_⟩ | ⟨g1,cap1,cur1,rfl,_,hh1,_⟩
 · simp[Value.ownBlock]at hg
 rcases h'.2 with⟨rfl,_⟩ | ⟨g2,cap2,cur2,rfl,_,hh2,_⟩
 · simp[Value.ownBlock]at hg'
 (obtain rfl:g1=g:=by simpa[Value.ownBlock]using hg);(obtain rfl:g2=g1:=by simpa[Value.ownBlock]using hg');rw[hh1]at hh2;injection hh2 with hh2;injection hh2 with _ ht;exact hne ht
theorem heap_keep {W W':World}{row:Option Nat}{b:Nat}{o:Obj}(h:W.heap[b]? = some o)(hg:W.grownBy W' row)(hne:row≠some b):W'.heap[b]? = some o :=
 (hg.block b (Array.getElem?_eq_some_iff.1 h).1 (fun e=>hne e.symm)).trans h
theorem own_mono {W:World}{b1 b2:Nat}{e:TypeId}{size n:Nat}{v:Value}{xs:List Value}(h:W.ownsRow b1 e size v n xs)(hb:b2≤b1):W.ownsRow b2 e size v n xs:=by
 refine⟨h.1,h.2.imp id ?_⟩;rintro⟨g,cap,cur,rfl,h2,h3⟩;exact⟨g,cap,cur,rfl,Nat.le_trans hb h2,h3⟩
theorem ownsRow_other {W W':World}{base:Nat}{e:TypeId}{size n:Nat}{v:Value}{xs:List Value}(h:W.ownsRow base e size v n xs)(hb : ∀g,base≤g→W'.heap[g]? = W.heap[g]?):W'.ownsRow base e size v n xs:=by
 refine⟨h.1,h.2.imp id ?_⟩;rintro⟨g,cap,cur,h1,h2,h3,h4⟩;exact⟨g,cap,cur,h1,h2,(hb g h2).trans h3,h4⟩
theorem ownsRow_set {W:World}{base b i:Nat}{e:TypeId}{size n:Nat}{v u:Value}{xs:List Value}(h:W.ownsRow base e size v n xs)(hb:b<base):(W.setCell ⟨b,i,none⟩ u).ownsRow base e size v n xs:=by
 refine⟨h.1,h.2.imp id ?_⟩;rintro⟨g,cap,cur,h1,h2,h3,h4⟩;exact⟨g,cap,cur,h1,h2,(Below.heap_setCell W ⟨b,i,none⟩ u g (by show g≠b;omega)).trans h3,h4⟩
theorem grown_below {b:Nat}{W w1:World}{v:Value}{base n size:Nat}{e:TypeId}{xs:List Value}(o:Obj)(hown:W.ownsRow base e size v n xs)(hb:b≤base)(hbW:b≤W.heap.size)(hgrow:(W.alloc o).drew.grownBy w1 v.ownBlock):Below b W w1 :=
 (((Below.refl b W).alloc hbW o).drew).grown hgrow (by simp;omega) fun k hk=>Nat.le_trans hb (hown.lt k hk).1
structure OutN (b:Nat) (n:NodeL) (l:List EntL) (vf:Value) (W:World):Prop where
 blk:W.heap[b]? = some (.cells #[.int .i64 n.kind, .int .i64 n.mode, .int .i64 n.owner, .int .i64 n.links, .int .i64 n.opn, .int .i64 n.up, .string (bs n.data),vf] 76 (0,0))
 own:W.ownsRow (b+1) 133 2 vf l.length (ents l)
theorem OutN.lt {b:Nat}{n:NodeL}{l:List EntL}{vf:Value}{W:World}(h:OutN b n l vf W):b<W.heap.size:=(Array.getElem?_eq_some_iff.1 h.blk).1
theorem OutN.put {b:Nat}{n:NodeL}{l:List EntL}{vf v':Value}{W w1:World}(h:OutN b n l vf W)(f:EntL)(o:Obj)(hgrow:(W.alloc o).drew.grownBy w1 vf.ownBlock)
 (hown1:w1.ownsRow (b+1) 133 2 v' (l.length+1) (ents l++ [.string (bs f.1), .int .i64 f.2])):OutN b n (l++ [f]) v' (w1.setCell ⟨b,7,none⟩ v'):=by
  have hlt:=h.lt;have hne:some b≠vf.ownBlock:=fun e=>by have:=(h.own.lt b e.symm).1;omega
  have h1:w1.heap[b]? = some (.cells #[.int .i64 n.kind, .int .i64 n.mode, .int .i64 n.owner, .int .i64 n.links, .int .i64 n.opn, .int .i64 n.up, .string (bs n.data),vf] 76 (0,0)):=by
   rw[hgrow.block b (by show b<(W.heap.push o).size;simp;omega) hne];exact((Below.refl W.heap.size W).alloc (Nat.le_refl _) o).block b hlt |>.trans h.blk
  refine⟨heap_set h1,ownsRow_set ?_ (Nat.lt_succ_self b)⟩;rw[List.length_append,ents_app];exact hown1
set_option maxRecDepth 100000 in
set_option maxHeartbeats 4000000 in
theorem node_any (n:NodeL)(v:Value)(w:World)(hv:RdNm w.heap.size (n,v) w)(hl:n.names.length≤10000) :
 Calls Tryz.prog 31 #[nval n v] w fun e w'=>∃v',e = .returned (nval n v')∧w'.ownsRow w.heap.size 133 2 v' n.names.length (ents n.names)∧Below w.heap.size w w':=by
 obtain⟨ao,cap,e,_,_⟩:=Rd.form hv;have e':v = .slice ao n.names.length cap:=e;subst e';obtain⟨i0,hi,hz0,hz1,hz2⟩:=info_parts infoREnt;have HV:Hid (Rd w.heap.size 2 (.slice ao n.names.length cap) n.names.length (ents n.names) w):=Lib.hid hv;clear hv e;go_enter Tryz.func31,Tryz.ntmps31;go_wp2_with fail;refine fresh3 (P:=fun W=>Code.wp _ _ _ _ W) ?_;intro W0 hb0 hP hR hO hs0;go_loopw [4] (fun i wr=>∃(k:Nat) (vf:Value),i = .int .i64 k∧k≤n.names.length∧Hid (OutN (w.heap.size+2) n (n.names.take k) vf wr)∧Below (w.heap.size+2) W0 wr) (fun i _=>n.names.length-(RowKit.intOf i).toNat)
 case atStart=>exact⟨0,_,rfl,Nat.zero_le _,Lib.hid ⟨hO,World.ownsRow_nil _ _ _ _⟩,Below.refl _ _⟩
 case round =>
  obtain⟨k,vf,rfl,hk,hON,hBr⟩:=hrel;have sB:=hBr.size;have hPr:=(hBr.block _ (by omega)).trans hP;(have p7:wr.cell? ⟨w.heap.size,7,none⟩=some (.slice ao n.names.length cap):=by rw[Lib.cell_of_heap hPr];rfl);have hBw:Below w.heap.size w wr:=hb0.trans (hBr.mono (by omega));have hbW:=hON.out.lt;(have cb1:wr.cell? ⟨w.heap.size+2,7,none⟩=some vf:=by rw[Lib.cell_of_heap hON.out.blk];rfl);have ff:wr.frozen? ⟨w.heap.size+2,7,none⟩=false:=Lib.frozen_of_heap hON.out.blk 7;by_cases hlt:k<n.names.length
  · obtain⟨b,off,cap',e,hn,hm,hb,hlen,hc⟩:=(HV.out.below hBw).at (by omega)
    injection e with e1 _ e2;subst e1;subst e2;have c0:=hc _ _ (ents_at0 n.names k hlt);have c1:wr.cell? ⟨b,off+k*2+1,none⟩=_:=hc (k*2+1) _ (ents_at1 n.names k hlt);have ht:Hid (n.names.take (k+1)=n.names.take k++ [n.names[k]]):=Lib.hid (List.take_succ_eq_append_getElem hlt);(have htl:(n.names.take k).length=k:=by rw[List.length_take];omega);have hown:=hON.out.own;(have ne1:vf.ownBlock≠some (w.heap.size+2):=fun e=>by have:=(hown.lt _ e).1;omega);(have fca : ∀o:Obj,(wr.alloc o).drew.cell? ⟨w.heap.size+2,7,none⟩=some vf:=fun o=>((Below.refl wr.heap.size wr).alloc (Nat.le_refl _) o).cell (p:=⟨w.heap.size+2,7,none⟩) hbW |>.trans cb1);(have ffa : ∀o:Obj,(wr.alloc o).drew.frozen? ⟨w.heap.size+2,7,none⟩=false:=fun o=>((Below.refl wr.heap.size wr).alloc (Nat.le_refl _) o).frozen (p:=⟨w.heap.size+2,7,none⟩) hbW |>.trans ff);generalize n.names[k]=f at *;obtain⟨fx,fz⟩:=f;have hlt':k+1≤n.names.length:=hlt;have sB':w.heap.size+2≤w.heap.size+2:=Nat.le_refl _;clear hc hP hR hO hPr hlen hn hm;go_wp2_with fail
    go_region_law
     ((refine step_append_lies _ (by rfl) _ _ _ (by rfl) (w.heap.size+2+1) 133 i0 _ 2 24 Tryz.underlying74 hi hz0 hz1 hz2 rfl (by omega) vf (n.names.take k).length (ents (n.names.take k)) (by rfl) ((hown.alloc _).drew)
        ⟨wr.heap.size,0,none⟩ 1 1 [.string (bs fx), .int .i64 fz] (by rfl) (by rfl) (World.news_of_block (cs:= #[.string (bs fx), .int .i64 fz]) (t:=133) (fr:=(0,0)) (heap_alloc_new wr _)) (by simp[Value.oneCell'])
        (by omega) (by unfold maxLen;omega) (by omega) (by simp;omega) (wr.heap.size+1) (by simp) ?_;intro gg cap w1 hown1 hgrow hat hlt;have ff1:w1.frozen? ⟨w.heap.size+2,7,none⟩=false:=(hgrow.frozen_far ⟨w.heap.size+2,7,none⟩ (by simp;omega) (Ne.symm ne1)).trans (ffa _);have fc1:w1.cell? ⟨w.heap.size+2,7,none⟩=some vf:=(hgrow.cell_far ⟨w.heap.size+2,7,none⟩ (by simp;omega) (Ne.symm ne1)).trans (fca _)))
    all_goals
     have hON':=Lib.hid (hON.out.put (fx,fz) _ hgrow (by rw[htl]at hown1 ⊢;exact hown1));have hB4:Below (w.heap.size+2) W0 w1:=hBr.trans ((grown_below _ hown (Nat.le_succ _) (Nat.le_of_lt hbW) hgrow).mono sB');rw[←ht.out]at hON';clear ff1 fc1 hgrow hat hown1 fca ffa;go_wp2_with fail;go_roundw
     case rel=>exact⟨k+1,_,by go_num,hlt',hON',hB4.setCell (p:=⟨w.heap.size+2,7,none⟩) (Nat.le_refl _) _⟩
     case measure=>simp[RowKit.intOf];omega
  · have hke:k=n.names.length:=by omega
    have HT:Hid (n.names.take k=n.names):=Lib.hid (by rw[hke,List.take_length]);(have hI2:decide (k<n.names.length)=false:=by simp;omega);have hRr:=(hBr.block _ (by omega)).trans hR;rw[HT.out]at hON;obtain⟨r0,r1,r2,r3,r4,r5,r6,r7⟩:=cells8 hRr;(have rf:=fun j=>Lib.frozen_of_heap hRr j);obtain⟨o0,o1,o2,o3,o4,o5,o6,o7⟩:=cells8 hON.out.blk;have hown:=hON.out.own;obtain⟨aov,capv,rfl⟩:=own_form hown;clear hke hlt;go_wp2_with fail;refine sets8 (P:=fun W=>bodyPost _ _ _ _ _ W) hRr ?_;intro W3 hb3 hg3 hs3 hR3;obtain⟨q0,q1,q2,q3,q4,q5,q6,q7⟩:=cells8 hR3;(have hown3:W3.ownsRow (w.heap.size+2+1) 133 2 (.slice aov n.names.length capv) n.names.length (ents n.names):=ownsRow_other hown fun g hg=>hg3 g (by omega));have hB3:Below w.heap.size w W3:=hBw.trans (hb3.mono (by omega));clear r0 r1 r2 r3 r4 r5 r6 r7 o0 o1 o2 o3 o4 o5 o6 o7 rf;(try simp only[Exit.inBlock,Exit.then]);refine bodyPost_ret (results_cell_row (p:=2) (ty:=76) rfl _ W3 (w.heap.size+1) _ _ _ _ rfl hR3 Tryz.underlying76 rfl (by kernel_rfl)) rfl ?_;exact⟨_,rfl,own_mono hown3 (by omega),hB3⟩
theorem infoRNode:(Tryz.prog.info? 76).map (fun i=>(i.zero,i.size,i.bytes))=some (some (.agg #[.int .i64 0, .int .i64 0, .int .i64 0, .int .i64 0, .int .i64 0, .int .i64 0, .string ⟨#[]⟩, .slice none 0 0]),8,88):=by kernel_rfl
structure OutD (b:Nat) (most room:Int) (ms:List NodeM) (vo:Value) (W:World):Prop where
 blk:W.heap[b]? = some (.cells #[vo, .int .i64 most, .int .i64 room] 48 (0,0))
 own:W.ownsRow (b+1) 76 8 vo ms.length (cellsN ms)
 nms : ∀m∈ms,W.ownsRow (b+1) 133 2 m.2 m.1.names.length (ents m.1.names)
theorem OutD.lt {b:Nat}{most room:Int}{ms:List NodeM}{vo:Value}{W:World}(h:OutD b most room ms vo W):b<W.heap.size:=(Array.getElem?_eq_some_iff.1 h.blk).1
theorem OutD.c0 {b:Nat}{most room:Int}{ms:List NodeM}{vo:Value}{W:World}(h:OutD b most room ms vo W):W.cell? ⟨b,0,none⟩=some vo:=(cells3 h.blk).1
theorem OutD.ca {b:Nat}{most room:Int}{ms:List NodeM}{vo:Value}{W:World}(h:OutD b most room ms vo W)(o:Obj):(W.alloc o).cell? ⟨b,0,none⟩=some vo :=
 ((Below.refl W.heap.size W).alloc (Nat.le_refl _) o).cell (p:=⟨b,0,none⟩) h.lt |>.trans h.c0
theorem OutD.fa {b:Nat}{most room:Int}{ms:List NodeM}{vo:Value}{W:World}(h:OutD b most room ms vo W)(o:Obj):(W.alloc o).frozen? ⟨b,0,none⟩=false :=
 ((Below.refl W.heap.size W).alloc (Nat.le_refl _) o).frozen (p:=⟨b,0,none⟩) h.lt |>.trans (Lib.frozen_of_heap h.blk 0)
theorem drew_below {B:Nat}{W W':World}(h:Below W.drew.heap.size W.drew W')(hB:B≤W.heap.size):Below B W W':=((Below.refl B W).drew).trans (h.mono hB)
theorem OutD.below {b:Nat}{most room:Int}{ms:List NodeM}{vo:Value}{W W':World}(h:OutD b most room ms vo W)(hb:Below W.heap.size W W'):OutD b most room ms vo W' :=
 ⟨(hb.block b h.lt).trans h.blk,ownsRow_below h.own hb (Nat.le_refl _),fun m hm=>ownsRow_below (h.nms m hm) hb (Nat.le_refl _)⟩
theorem OutD.put {b:Nat}{most room:Int}{ms:List NodeM}{vo v':Value}{W w1:World}(h:OutD b most room ms vo W)(m:NodeM)(hm:W.ownsRow (b+1) 133 2 m.2 m.1.names.length (ents m.1.names))(o:Obj)(hgrow:(W.alloc o).grownBy w1 vo.ownBlock)
 (hown1:w1.ownsRow (b+1) 76 8 v' (ms.length+1) (cellsN ms++ncells m)):OutD b most room (ms++ [m]) v' (w1.setCell ⟨b,0,none⟩ v'):=by
  have hlt:=h.lt;(have hne:vo.ownBlock≠some b:=fun e=>by have:=(h.own.lt b e).1;omega);have hba:=(Below.refl W.heap.size W).alloc (Nat.le_refl _) o;have h1:=heap_keep ((hba.block b hlt).trans h.blk) hgrow hne
  have hnm : ∀x:NodeM,W.ownsRow (b+1) 133 2 x.2 x.1.names.length (ents x.1.names)→(w1.setCell ⟨b,0,none⟩ v').ownsRow (b+1) 133 2 x.2 x.1.names.length (ents x.1.names):=fun x hx =>
   ownsRow_set (ownsRow_grown (ownsRow_below hx hba (Nat.le_refl _)) hgrow fun g hg hr=>own_ne hx h.own (by decide) g hg hr) (Nat.lt_succ_self b)
  refine⟨heap_set h1,ownsRow_set ?_ (Nat.lt_succ_self b),fun x hx=> ?_⟩
  · rw[List.length_append,cellsN_app]
    (have e:cellsN [m]=ncells m:=by simp[cellsN]);rw[e];exact hown1
  · rcases List.mem_append.1 hx with hx | hx
    · exact hnm x (h.nms x hx)
    · obtain rfl:=List.mem_singleton.1 hx
      exact hnm x hm
theorem OutD.gives {b:Nat}{most room:Int}{ms:List NodeM}{vo:Value}{W:World}(h:OutD b most room ms vo W):RdM W.heap.size vo ms W :=
 ⟨Rd.own h.own (Nat.le_refl _),fun m hm=>Rd.own (h.nms m hm) (Nat.le_refl _)⟩
end Go.Proofs.YtbjkkijickbppaaGreatDoor
