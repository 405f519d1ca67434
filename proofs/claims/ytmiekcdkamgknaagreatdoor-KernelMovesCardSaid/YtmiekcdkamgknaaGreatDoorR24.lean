import Derived.Test.YtmiekcdkamgknaaGreatDoorR23
import Derived.Deep.MidRow
import Derived.StillTailTactics
import Derived.Deep.RegionHeld3
import Derived.Test.YtmiekcdkamgknaaGreatDoorR12
import Derived.Test.YtmiekcdkamgknaaGreatDoorR11
import Derived.Test.YtmiekcdkamgknaaGreatDoorProg
import Derived.LaidEql
import Derived.Stop.Asserts
import Derived.RowKitTokens
import Derived.Test.YtmiekcdkamgknaaGreatDoorR14
import Derived.Test.YtmiekcdkamgknaaGreatDoorR20
namespace Go.Proofs.YtmiekcdkamgknaaGreatDoor
open Go.RowKit Go.Shelf
theorem cells2 {W:World}{b:Nat}{u0 u1:Value}{t:TypeId}{f:Nat × Nat}(h:W.heap[b]? = some (.cells #[u0,u1] t f)):W.cell? ⟨b,0,none⟩=some u0∧W.cell? ⟨b,1,none⟩=some u1:=by
 refine⟨?_,?_⟩<;>(rw[Lib.cell_of_heap h];rfl)
theorem wpList_fresh1 {P:Program}{ops:Array Oper}{Q:Exit→Act→World→Prop}{l:List Oper}{a:Act}{w:World}{A:Obj}
 (h : ∀W,Below w.heap.size w W→W.heap[w.heap.size]? = some A→W.heap.size=w.heap.size+1→wpList P ops Q l a W):wpList P ops Q l a (w.alloc A):=fresh1 (P:=fun W=>wpList P ops Q l a W) h
theorem there_block {w:World}{b:Nat}{old:Array Value}{t:TypeId}(hb:w.heap[b]? = some (.cells old t (0,0))):w.there b 0 old.size:=fun j hj=>by
 refine⟨?_,Lib.frozen_of_heap hb _⟩;rw[Lib.cell_of_heap hb,Nat.zero_add,Array.getElem?_eq_getElem hj];rfl
theorem heap_setCells_same {b:Nat}{t:TypeId} : ∀(vs:List Value) (o:Nat) (w:World) (cs:Array Value),w.heap[b]? = some (.cells cs t (0,0))→∃cs',(w.setCells b o vs).heap[b]? = some (.cells cs' t (0,0))∧cs'.size=cs.size
 | [],_,_,cs,h=>⟨cs,h,rfl⟩
 | v::r,o,w,cs,h=>by
    obtain⟨cs',h1,h2⟩:=heap_setCells_same r (o+1) (w.setCell ⟨b,o,none⟩ v) _ (heap_set h);exact⟨cs',h1,by rw[h2,Array.size_setIfInBounds]⟩
theorem heap_setCells_all {w:World}{b:Nat}{old:Array Value}{t:TypeId}(vs:List Value)(hb:w.heap[b]? = some (.cells old t (0,0)))(hs:old.size=vs.length):(w.setCells b 0 vs).heap[b]? = some (.cells vs.toArray t (0,0)):=by
 obtain⟨cs',h1,h2⟩:=heap_setCells_same (t:=t) vs 0 w old hb;rw[h1];have hr:=World.rangeAt_setCells_same w b 0 vs (by rw[←hs];exact there_block hb)
 have:cs'=vs.toArray:=by
  apply Array.ext_getElem?;intro j;rcases Nat.lt_or_ge j vs.length with hj | hj
  · have h3:=hr j vs[j] (List.getElem?_eq_getElem hj)
    rw[Lib.cell_of_heap h1,Nat.zero_add]at h3;rw[h3];simp[hj]
  · rw[Array.getElem?_eq_none (by omega),Array.getElem?_eq_none (by simpa using hj)]
 rw[this]
theorem wpList_store_row {P:Program}{ops:Array Oper}{rest:List Oper}{op:Oper}{a:Act}{w:World}{Q:Exit→Act→World→Prop}(hgd:op.guard=none)(ty:TypeId)(x y:Operand)(ho:op.op = .store ty x y)
 (b:Nat) {cells old:List Value} {t:TypeId} (hx:a.eval x = .pointer (some ⟨b,0,none⟩)) (hy:a.eval y = .agg cells.toArray) (hb:w.heap[b]? = some (.cells old.toArray t (0,0))) (hs:old.length=cells.length)
 (hi:(P.info? ty).map (·.size)=some cells.length) (h1:cells.all (·.oneCell')=true)
 (h : ∀W',Below b w W'→(∀g,g≠b→W'.heap[g]? = w.heap[g]?)→W'.heap.size=w.heap.size→W'.heap[b]? = some (.cells cells.toArray t (0,0))→wpList P ops Q rest (a.put op.dst undef) W'):wpList P ops Q (op::rest) a w:=by
  refine wpList_store_mid hgd ty x y ho b 0 cells.toArray hx hy ?_ (by simpa using hi) ?_ ?_
  · have:=there_block hb
    rw[List.size_toArray]at this ⊢
    rwa [←hs]
  · exact all_oneCell_toArray fun v hv=>List.all_eq_true.1 h1 v hv
  · exact h _ (below_setCells _ _ (Nat.le_refl _) _ _ _) (fun g hg=>heap_setCells _ _ hg _ _ _) (size_setCells _ _ _ _) (heap_setCells_all _ hb (by rw[List.size_toArray];exact hs))
theorem wp_store_row {P:Program}{op:Oper}{a:Act}{w:World}{K:Act→World→Prop}{Q:Exit→Act→World→Prop}(ty:TypeId)(x y:Operand)(ho:op.op = .store ty x y)
 (b:Nat) {cells old:List Value} {t:TypeId} (hx:a.eval x = .pointer (some ⟨b,0,none⟩)) (hy:a.eval y = .agg cells.toArray) (hb:w.heap[b]? = some (.cells old.toArray t (0,0))) (hs:old.length=cells.length)
 (hi:(P.info? ty).map (·.size)=some cells.length) (h1:cells.all (·.oneCell')=true)
 (h : ∀W',Below b w W'→(∀g,g≠b→W'.heap[g]? = w.heap[g]?)→W'.heap.size=w.heap.size→W'.heap[b]? = some (.cells cells.toArray t (0,0))→K (a.put op.dst undef) W'):op.wp P a w K Q:=by
  refine wp_store_mid ty x y ho b 0 cells.toArray hx hy ?_ (by simpa using hi) ?_ ?_
  · have:=there_block hb
    rw[List.size_toArray]at this ⊢
    rwa [←hs]
  · exact all_oneCell_toArray fun v hv=>List.all_eq_true.1 h1 v hv
  · exact h _ (below_setCells _ _ (Nat.le_refl _) _ _ _) (fun g hg=>heap_setCells _ _ hg _ _ _) (size_setCells _ _ _ _) (heap_setCells_all _ hb (by rw[List.size_toArray];exact hs))
theorem yieldsIf_load_row {P:Program}{ops:Array Oper}{S:World→Prop}{op:Oper}{a:Act}(hw:Region.wanted op (yielded ops a.tmps)=true)(ty:TypeId)(x:Operand)(ho:op.op = .load ty x)
 (b:Nat) (hx:a.eval x = .pointer (some ⟨b,0,none⟩)) (t:TypeId) (cs:Array Value) (fr:Nat × Nat) (d:TypeDesc) (hS : ∀w,S w→w.heap[b]? = some (.cells cs t fr))
 (hu:P.underlying ty=some d) (hd:(match d with | .struct _ | .array _ _=>true | _=>false)=true) (hi:(P.info? ty).map (·.size)=some cs.size):YieldsIf P ops S op (.agg cs) a :=
  .inl ⟨hw,fun w hw'=>by
   unfold execOp
   simp only[ho,hx,Instr.loadAt,Instr.sureAddr,Sem.run_bind,Sem.run_pure,Result.andThen_ok,run_loadVar_row w b t ty cs fr d (hS w hw') hu hd hi]⟩
end Go.Proofs.YtmiekcdkamgknaaGreatDoor
namespace Go.Proofs.YtmiekcdkamgknaaGreatDoor
open Go.RowKit Go.Shelf
theorem pt {α:Type}:(∀(l:List α) (i:Nat) (h:i<l.toArray.size),l.toArray[i]=l[i]'(by simpa using h))∧(∀(a:α) (l:List α) (i:Nat) (h:i+1<(a::l).length),(a::l)[i+1]=l[i]'(Nat.lt_of_succ_lt_succ h))∧(∀(a:α) (l:List α) (h:0<(a::l).length),(a::l)[0]=a)
 ∧ (∀(l:List α) (i:Nat) (a:α),l.toArray.setIfInBounds i a=(l.set i a).toArray)∧(∀(a b:α) (l:List α) (i:Nat),(a::l).set (i+1) b=a::l.set i b)∧∀(a b:α) (l:List α),(a::l).set 0 b=b::l :=
 ⟨fun _ _ _=>List.getElem_toArray _,fun _ _ _ _=>rfl,fun _ _ _=>rfl,fun _ _ _=>List.setIfInBounds_toArray ..,fun _ _ _ _=>rfl,fun _ _ _=>rfl⟩
section
variable {P:Program} {ops:Array Oper} {Q:Exit→Act→World→Prop} {md:Region.Mode} {S:World→Prop} {oi:Oper} {v:Value} {fuel:Nat} {listed l2:Array Bool} {a a2:Act} {w:World}
theorem zY (i:Nat)(h:wpAnyH P md ops Q S fuel l2 a2 w)(hi:ops[i]? = some oi:=by rfl)(hS:S w:=by assumption)
 (hs:Region.noSelect ops=true:=by kernel_rfl) (hf:Region.free md ops listed i=true:=by kernel_rfl) (hr:(Region.ready md ops listed).contains i=true:=by kernel_rfl) (hw:Region.wanted oi (yielded ops a.tmps)=true:=by rfl)
 (hy : ∀w,S w→(execOp a.eval oi).run P w = .ok (.value v) w:=by(intro w hSw;(try dsimp only at hSw);(try go_split_ands);go_simp;first | done | with_reducible rfl))
 (e1:listed.setIfInBounds i true=l2:=by((try simp only[pt]);rfl)) (e2:a.put oi.dst v=a2:=by((try simp only[pt,Act.put]);rfl)) (hQ : ∀c a w,Q (.panic c) (a.put oi.dst v) w→Q (.panic c) a w:=by exact fun _ _ _ h=>h)
: wpAnyH P md ops Q S (fuel+1) listed a w :=
 wpAnyH_take hi hs hf hr hQ (.inl ⟨hw,hy⟩) hS (by rw[e1,e2];exact h)
theorem zZ {C:World→Prop}(i:Nat)(f : ∀w,S w→C w)(h:wpAnyH P md ops Q S fuel l2 a2 w)(hi:ops[i]? = some oi:=by rfl)(hS:S w:=by assumption)
 (hs:Region.noSelect ops=true:=by kernel_rfl) (hf:Region.free md ops listed i=true:=by kernel_rfl) (hr:(Region.ready md ops listed).contains i=true:=by kernel_rfl) (hw:Region.wanted oi (yielded ops a.tmps)=true:=by rfl)
 (hy : ∀w,S w→C w→(execOp a.eval oi).run P w = .ok (.value v) w:=by(intro w hSw hcc;(try dsimp only at hSw hcc);(try go_split_ands);go_simp;first | done | with_reducible rfl))
 (e1:listed.setIfInBounds i true=l2:=by((try simp only[pt]);rfl)) (e2:a.put oi.dst v=a2:=by((try simp only[pt,Act.put]);rfl)) (hQ : ∀c a w,Q (.panic c) (a.put oi.dst v) w→Q (.panic c) a w:=by exact fun _ _ _ h=>h)
: wpAnyH P md ops Q S (fuel+1) listed a w :=
 wpAnyH_take hi hs hf hr hQ (.inl ⟨hw,fun w k=>hy w k (f w k)⟩) hS (by rw[e1,e2];exact h)
theorem zN (i:Nat)(h:wpAnyH P md ops Q S fuel l2 a2 w)(hi:ops[i]? = some oi:=by rfl)(hS:S w:=by assumption)
 (hs:Region.noSelect ops=true:=by kernel_rfl) (hf:Region.free md ops listed i=true:=by kernel_rfl) (hr:(Region.ready md ops listed).contains i=true:=by kernel_rfl) (hw:Region.wanted oi (yielded ops a.tmps)=false:=by rfl)
 (e1:listed.setIfInBounds i true=l2:=by((try simp only[pt]);rfl)) (e2:a.put oi.dst undef=a2:=by((try simp only[pt,Act.put]);rfl)) (hQ : ∀c a w,Q (.panic c) (a.put oi.dst undef) w→Q (.panic c) a w:=by exact fun _ _ _ h=>h)
: wpAnyH P md ops Q S (fuel+1) listed a w :=
 wpAnyH_take hi hs hf hr hQ (.inr ⟨hw,rfl⟩) hS (by rw[e1,e2];exact h)
theorem zR {ty t:TypeId}{x:Operand}{b:Nat}{cs:Array Value}{d:TypeDesc}(i:Nat)(hu:P.underlying ty=some d)(f : ∀w,S w→w.heap[b]? = some (.cells cs t (0,0)))(h:wpAnyH P md ops Q S fuel l2 a2 w)(hi:ops[i]? = some oi:=by rfl)(hS:S w:=by assumption)
 (ho:oi.op = .load ty x:=by rfl) (hx:a.eval x = .pointer (some ⟨b,0,none⟩):=by rfl) (hd:(match d with | .struct _ | .array _ _=>true | _=>false)=true:=by rfl) (hz:(P.info? ty).map (·.size)=some cs.size:=by kernel_rfl)
 (hs:Region.noSelect ops=true:=by kernel_rfl) (hf:Region.free md ops listed i=true:=by kernel_rfl) (hr:(Region.ready md ops listed).contains i=true:=by kernel_rfl) (hw:Region.wanted oi (yielded ops a.tmps)=true:=by rfl)
 (e1:listed.setIfInBounds i true=l2:=by((try simp only[pt]);rfl)) (e2:a.put oi.dst (.agg cs)=a2:=by((try simp only[pt,Act.put]);rfl)) (hQ : ∀c a w,Q (.panic c) (a.put oi.dst (.agg cs)) w→Q (.panic c) a w:=by exact fun _ _ _ h=>h)
: wpAnyH P md ops Q S (fuel+1) listed a w :=
 wpAnyH_take hi hs hf hr hQ (yieldsIf_load_row hw ty x ho b hx t cs (0,0) d f hu hd hz) hS (by rw[e1,e2];exact h)
theorem zM {ty:TypeId}{x:Operand}{b o:Nat}{cs:List Value}{d:TypeDesc}(i:Nat)(hu:P.underlying ty=some d)(f : ∀w,S w→w.rangeAt b o cs)(h:wpAnyH P md ops Q S fuel l2 a2 w)(hi:ops[i]? = some oi:=by rfl)(hS:S w:=by assumption)
 (ho:oi.op = .load ty x:=by rfl) (hx:a.eval x = .pointer (some ⟨b,o,none⟩):=by rfl) (hd:d.isRow=true:=by rfl) (hz:(P.info? ty).map (·.size)=some cs.length:=by kernel_rfl)
 (hs:Region.noSelect ops=true:=by kernel_rfl) (hf:Region.free md ops listed i=true:=by kernel_rfl) (hr:(Region.ready md ops listed).contains i=true:=by kernel_rfl) (hw:Region.wanted oi (yielded ops a.tmps)=true:=by rfl)
 (e1:listed.setIfInBounds i true=l2:=by((try simp only[pt]);rfl)) (e2:a.put oi.dst (.agg cs.toArray)=a2:=by((try simp only[pt,Act.put]);rfl)) (hQ : ∀c a w,Q (.panic c) (a.put oi.dst (.agg cs.toArray)) w→Q (.panic c) a w:=by exact fun _ _ _ h=>h)
: wpAnyH P md ops Q S (fuel+1) listed a w :=
 wpAnyH_take hi hs hf hr hQ (yieldsIf_load_mid hw ty x ho b o hx cs d f hu hd hz) hS (by rw[e1,e2];exact h)
theorem zO (i:Nat)
 (h : ∀K':Act→World→Prop,Shut (∀a w,S w→(S w→wpAnyH P md ops Q S fuel (listed.setIfInBounds i true) a w)→K' a w)→if Region.wanted oi (yielded ops a.tmps)=true then Oper.wp P oi a w K' Q else K' (a.put oi.dst undef) w)
 (ho:ops[i]? = some oi:=by rfl) (hr:Region.ready md ops listed = [i]:=by kernel_rfl):wpAnyH P md ops Q S (fuel+1) listed a w :=
  wpAnyH_ready hr (by simp) (AllReadyH.cons ho h AllReadyH.nil)
end
section
variable {P:Program} {ops:Array Oper} {rest:List Oper} {o:Oper} {a:Act} {w:World} {Q:Exit→Act→World→Prop} {ty t:TypeId} {x y:Operand} {g b off:Nat} {cs:Array Value} {cl:List Value} {d:TypeDesc}
theorem zl (hg:w.heap[g]? = some (.cells cs t (0,0)))(hu:P.underlying ty=some d)(h:wpList P ops Q rest (a.put o.dst (.agg cs)) w)(hgd:o.guard=none:=by rfl)(ho:o.op = .load ty x:=by rfl)(hx:a.eval x = .pointer (some ⟨g,0,none⟩):=by rfl)
 (hd:(match d with | .struct _ | .array _ _=>true | _=>false)=true:=by rfl) (hi:(P.info? ty).map (·.size)=some cs.size:=by kernel_rfl):wpList P ops Q (o::rest) a w :=
  wpList_load_row hgd ty x ho g hx t cs (0,0) d hg hu hd hi h
theorem zg (hg:w.heap[g]? = some (.cells cs t (0,0)))(hu:P.underlying ty=some d)(h:wpList P ops Q rest (a.put o.dst (.agg cs)) w)(hw:Region.wanted o (yielded ops a.tmps)=true:=by rfl)(ho:o.op = .load ty x:=by rfl)(hx:a.eval x = .pointer (some ⟨g,0,none⟩):=by rfl)
 (hd:(match d with | .struct _ | .array _ _=>true | _=>false)=true:=by rfl) (hi:(P.info? ty).map (·.size)=some cs.size:=by kernel_rfl):wpList P ops Q (o::rest) a w :=
  wpList_step fun _ hK=>by rw[if_pos hw];exact wp_load_row ty x ho g hx t cs (0,0) d hg hu hd hi (hK _ _ h)
theorem zm (hc:w.rangeAt b off cl)(hu:P.underlying ty=some d)(h:wpList P ops Q rest (a.put o.dst (.agg cl.toArray)) w)(hgd:o.guard=none:=by rfl)(ho:o.op = .load ty x:=by rfl)(hx:a.eval x = .pointer (some ⟨b,off,none⟩):=by rfl)
 (hd:d.isRow=true:=by rfl) (hi:(P.info? ty).map (·.size)=some cl.length:=by kernel_rfl):wpList P ops Q (o::rest) a w :=
  wpList_load_mid hgd ty x ho b off hx cl d hc hu hd hi h
theorem zn (hc:w.rangeAt b off cl)(hu:P.underlying ty=some d)(h:wpList P ops Q rest (a.put o.dst (.agg cl.toArray)) w)(hw:Region.wanted o (yielded ops a.tmps)=true:=by rfl)(ho:o.op = .load ty x:=by rfl)(hx:a.eval x = .pointer (some ⟨b,off,none⟩):=by rfl)
 (hd:d.isRow=true:=by rfl) (hi:(P.info? ty).map (·.size)=some cl.length:=by kernel_rfl):wpList P ops Q (o::rest) a w :=
  wpList_step fun _ hK=>by rw[if_pos hw];exact wp_load_mid ty x ho b off hx cl d hc hu hd hi (hK _ _ h)
theorem zs {old cells:List Value}(hb:w.heap[b]? = some (.cells old.toArray t (0,0)))
 (h : ∀W',Below b w W'→(∀g,g≠b→W'.heap[g]? = w.heap[g]?)→W'.heap.size=w.heap.size→W'.heap[b]? = some (.cells cells.toArray t (0,0))→wpList P ops Q rest (a.put o.dst undef) W')
 (hgd:o.guard=none:=by rfl) (ho:o.op = .store ty x y:=by rfl) (hx:a.eval x = .pointer (some ⟨b,0,none⟩):=by rfl) (hy:a.eval y = .agg cells.toArray:=by rfl) (hs:old.length=cells.length:=by rfl)
 (hi:(P.info? ty).map (·.size)=some cells.length:=by kernel_rfl) (h1:cells.all (·.oneCell')=true:=by rfl):wpList P ops Q (o::rest) a w :=
  wpList_store_row hgd ty x y ho b hx hy hb hs hi h1 h
theorem zh {old cells:List Value}{K:Act→World→Prop}(hb:w.heap[b]? = some (.cells old.toArray t (0,0)))
 (h : ∀W',Below b w W'→(∀g,g≠b→W'.heap[g]? = w.heap[g]?)→W'.heap.size=w.heap.size→W'.heap[b]? = some (.cells cells.toArray t (0,0))→K (a.put o.dst undef) W')
 (ho:o.op = .store ty x y:=by rfl) (hx:a.eval x = .pointer (some ⟨b,0,none⟩):=by rfl) (hy:a.eval y = .agg cells.toArray:=by rfl) (hs:old.length=cells.length:=by rfl)
 (hi:(P.info? ty).map (·.size)=some cells.length:=by kernel_rfl) (h1:cells.all (·.oneCell')=true:=by rfl):o.wp P a w K Q :=
  wp_store_row ty x y ho b hx hy hb hs hi h1 h
end
theorem zr {P:Program}{ops:Array Oper}{Q:Exit→Act→World→Prop}{id:Nat}{a:Act}{w:World}{S:World→Prop}(hm:P.follows .mixedOrders=true)(hS:S w)(k:S w→S w.drew)
 (h:S w.drew→wpAnyH P .any ops Q S ops.size (Array.replicate ops.size false) a w.drew):(Code.region id ops true).wp P Q a w:=wp_region_held_drew hm (k hS) h
theorem zd {p:Prop}(h:p):Hid p:=Lib.hid h
theorem zq1 {A:Prop}(h:A):A∧True:=⟨h,trivial⟩
theorem zq2 {A B:Prop}(h:A)(k:B):A∧B∧True:=⟨h,k,trivial⟩
theorem zq3 {A B C:Prop}(h:A)(k:B)(l:C):A∧B∧C∧True:=⟨h,k,l,trivial⟩
theorem zq4 {A B C D:Prop}(h:A)(k:B)(l:C)(m:D):A∧B∧C∧D∧True:=⟨h,k,l,m,trivial⟩
theorem zq5 {A B C D E:Prop}(h:A)(k:B)(l:C)(m:D)(n:E):A∧B∧C∧D∧E∧True:=⟨h,k,l,m,n,trivial⟩
theorem zq6 {A B C D E F:Prop}(h:A)(k:B)(l:C)(m:D)(n:E)(o:F):A∧B∧C∧D∧E∧F∧True:=⟨h,k,l,m,n,o,trivial⟩
end Go.Proofs.YtmiekcdkamgknaaGreatDoor
namespace Go.Proofs.YtmiekcdkamgknaaGreatDoor
open Go.RowKit Go.Shelf Go.Lib Go.Extern.Stop Go.Stop Go.Extern
abbrev belowV (n:Int):Value:= .iface 250 (.int .i64 n)
abbrev unmetV (p:ByteArray)(c:Value):Value:= .iface 242 (.agg #[.string p,c])
abbrev sentV (a:Addr):Value:= .iface 326 (.pointer (some a))
end Go.Proofs.YtmiekcdkamgknaaGreatDoor
namespace Go.Proofs.YtmiekcdkamgknaaGreatDoor
open Go.RowKit Go.Shelf
abbrev codes:List Nat:= [1,2,3,4,5,6,7,9,11,15]
structure Sent (S:Nat→Addr) (W:World):Prop where
 e1:W.cell? ⟨6,0,none⟩=some (sentV (S 1))
 e2:W.cell? ⟨1,0,none⟩=some (sentV (S 2))
 e3:W.cell? ⟨7,0,none⟩=some (sentV (S 3))
 e4:W.cell? ⟨4,0,none⟩=some (sentV (S 4))
 e5:W.cell? ⟨8,0,none⟩=some (sentV (S 5))
 e6:W.cell? ⟨5,0,none⟩=some (sentV (S 6))
 e7:W.cell? ⟨3,0,none⟩=some (sentV (S 7))
 e9:W.cell? ⟨2,0,none⟩=some (sentV (S 9))
 e11:W.cell? ⟨9,0,none⟩=some (sentV (S 11))
 e15:W.cell? ⟨10,0,none⟩=some (sentV (S 15))
 blk : ∀k∈codes,∃c t,W.heap[(S k).block]? = some (.cells c t (0,0))
 inj : ∀j∈codes,∀k∈codes,j≠k→S j≠S k
 err:W.cell? ⟨0,0,none⟩=some errTypeV
theorem Sent.keep {S:Nat→Addr}{W W':World}(h:Sent S W)(hb:Below W.heap.size W W'):Sent S W' where
 e1:=(hb.cell (p:=⟨6,0,none⟩) (World.block_lt_of_cell? W _ h.e1)).trans h.e1
 e2:=(hb.cell (p:=⟨1,0,none⟩) (World.block_lt_of_cell? W _ h.e2)).trans h.e2
 e3:=(hb.cell (p:=⟨7,0,none⟩) (World.block_lt_of_cell? W _ h.e3)).trans h.e3
 e4:=(hb.cell (p:=⟨4,0,none⟩) (World.block_lt_of_cell? W _ h.e4)).trans h.e4
 e5:=(hb.cell (p:=⟨8,0,none⟩) (World.block_lt_of_cell? W _ h.e5)).trans h.e5
 e6:=(hb.cell (p:=⟨5,0,none⟩) (World.block_lt_of_cell? W _ h.e6)).trans h.e6
 e7:=(hb.cell (p:=⟨3,0,none⟩) (World.block_lt_of_cell? W _ h.e7)).trans h.e7
 e9:=(hb.cell (p:=⟨2,0,none⟩) (World.block_lt_of_cell? W _ h.e9)).trans h.e9
 e11:=(hb.cell (p:=⟨9,0,none⟩) (World.block_lt_of_cell? W _ h.e11)).trans h.e11
 e15:=(hb.cell (p:=⟨10,0,none⟩) (World.block_lt_of_cell? W _ h.e15)).trans h.e15
 blk:=fun k hk=>by
  obtain⟨c,t,hc⟩:=h.blk k hk;exact⟨c,t,(hb.block _ (Array.getElem?_eq_some_iff.1 hc).1).trans hc⟩
 inj:=h.inj
 err:=(hb.cell (p:=⟨0,0,none⟩) (World.block_lt_of_cell? W _ h.err)).trans h.err
def ErrIs (S:Nat→Addr)(n:Int)(v:Value):Prop :=
 (n=0∧v = .nilIface)∨(n≠0∧∃p,v=unmetV p (belowV n))∨(∃k∈codes,n=(k:Int)∧∃p,v=unmetV p (sentV (S k)))
theorem ErrIs.nil {S:Nat→Addr}:ErrIs S 0 .nilIface:= .inl ⟨rfl,rfl⟩
theorem ErrIs.sent {S:Nat→Addr}(k:Nat)(hk:k∈codes)(p:ByteArray):ErrIs S (k:Int) (unmetV p (sentV (S k))):= .inr (.inr ⟨k,hk,rfl,p,rfl⟩)
theorem ErrIs.below {S:Nat→Addr}{n:Int}(h:n≠0)(p:ByteArray):ErrIs S n (unmetV p (belowV n)):= .inr (.inl ⟨h,p,rfl⟩)
theorem code_pos {k:Nat}(h:k∈codes):k≠0:=by rintro rfl;revert h;decide
theorem ErrIs.form {S:Nat→Addr}{n:Int}{v:Value}(h:ErrIs S n v):(n=0∧v = .nilIface)∨(n≠0∧∃p c,v=unmetV p c):=by
 rcases h with h | ⟨h,p,rfl⟩ | ⟨k,hk,rfl,p,rfl⟩
 · exact .inl h
 · exact .inr ⟨h,p,_,rfl⟩
 · exact .inr ⟨by have:=code_pos hk;omega,p,_,rfl⟩
end Go.Proofs.YtmiekcdkamgknaaGreatDoor
namespace Go.Proofs.YtmiekcdkamgknaaGreatDoor
def PartOk (q:Str):Prop:=q≠ []∧q.length≤12∧(47:UInt8)∉q∧(0:UInt8)∉q
theorem parts_no47 : ∀(n:Nat) (p:Str),p.length≤n→∀q∈parts p,(47:UInt8)∉q:=by
 intro n
 induction n with
 | zero =>
    intro p h q hq;obtain rfl:=List.eq_nil_of_length_eq_zero (Nat.le_zero.1 h);rw[parts_nil]at hq
    cases hq
 | succ n ih =>
    intro p h q hq;by_cases hm:(47:UInt8)∈p
    · obtain⟨a,b,rfl⟩:=List.append_of_mem hm
      rw[List.length_append,List.length_cons]at h;rw[parts_app]at hq;rcases List.mem_append.1 hq with hq | hq
      · exact ih a (by omega) q hq
      · exact ih b (by omega) q hq
    · by_cases hp:p = []
      · subst hp;rw[parts_nil]at hq;cases hq
      · rw[parts_one hm hp]at hq
        obtain rfl:=List.mem_singleton.1 hq;exact hm
theorem parts_sub (p:Str)(c:UInt8)(q:Str)(hq:q∈parts p)(hc:c∈q):c∈p:=by
 unfold parts at hq;obtain⟨s,_,rfl⟩:=List.mem_map.1 hq;unfold cutS at hc;exact List.mem_of_mem_take (List.mem_of_mem_drop hc)
theorem parts_ok {p:Str}(h:checkE p=0) : ∀q∈parts p,PartOk q:=by
 intro q hq;obtain⟨_,_,h0,h12⟩:=check_zero h;exact⟨parts_ne p q hq,h12 q hq,parts_no47 _ p (Nat.le_refl _) q hq,fun h=>h0 (parts_sub p 0 q hq h)⟩
theorem part_legal {q:Str}(h:PartOk q)(h1:q≠ [46])(h2:q≠ [46,46]):legalL q=0:=by
 obtain⟨a,b,c,d⟩:=h;unfold legalL;rw[if_neg,if_neg (by omega)];rintro(e | e | e | e)
 · exact a e
 · exact h1 e
 · exact h2 e
 · obtain⟨x,hx,hb⟩:=List.any_eq_true.1 e
   unfold barredL at hb;simp only[Bool.or_eq_true,beq_iff_eq]at hb;rcases hb with rfl | rfl
   · exact c hx
   · exact d hx
theorem part_go (l:List NodeL)(who:Int)(follow slash:Bool) : ∀i ps hops,(∀q∈ps,PartOk q)→(goW l who follow slash i ps hops).2=0→(goW l who follow slash i ps hops).1.name = []∨PartOk (goW l who follow slash i ps hops).1.name:=by
 refine go_ind l who follow slash (fun i ps hops R=>(∀q∈ps,PartOk q)→R.2=0→R.1.name = []∨PartOk R.1.name) ?_ ?_ ?_ ?_ ?_ ?_ ?_ ?_ ?_ ?_ ?_
 · intro i hops _ _;exact .inl rfl
 · intro i hops p rest hd _ he;exact absurd he hd
 · intro i hops p rest _ _ _ he;cases he
 · intro i hops p _ _ _ hp _;exact .inr (hp p (by simp))
 · intro i hops p rest _ _ _ _ _ he;cases he
 · intro i hops p rest _ _ _ _ _ _ _ he;cases he
 · intro i hops p rest _ _ _ _ _ _ hx _ he;exact absurd he hx
 · intro i hops p rest R _ _ _ _ _ _ hx ih hp he
   refine ih (fun q hq=> ?_) he;rcases List.mem_append.1 hq with hq | hq
   · exact parts_ok hx q hq
   · exact hp q (by simp[hq])
 · intro i hops p _ _ _ _ _ _ _ he;cases he
 · intro i hops p _ _ _ _ _ hp _;exact .inr (hp p (by simp))
 · intro i hops p rest R _ _ _ _ _ ih hp he;exact ih (fun q hq=>hp q (by simp[hq])) he
theorem part_walk (l:List NodeL)(who fr:Int)(p:Str)(f:Bool)(h:(walkL l who fr p f).2=0):(walkL l who fr p f).1.name = []∨PartOk (walkL l who fr p f).1.name:=by
 unfold walkL at h ⊢;split at h
 · rename_i hc;exact absurd h hc
 · rename_i hc
   rw[if_neg hc];have hc':=Decidable.not_not.1 hc;split at h
   · rename_i hp
     rw[if_pos hp];split at h
     · rename_i hd;exact absurd h hd
     · rename_i hd
       rw[if_neg hd];exact .inl rfl
   · rename_i hp
     rw[if_neg hp];exact part_go l who f _ _ _ _ (parts_ok hc') h
def SpotW (l:List NodeL)(s:SpotL):Prop:=SpotOk l s∧(s.name = []∨PartOk s.name)
theorem walk_spot {l:List NodeL}(hr:RightP l){who fr:Int}{p:Str}{f:Bool}(h:(walkL l who fr p f).2=0):SpotW l (walkL l who fr p f).1:=⟨law_spot hr who fr p f h,part_walk l who fr p f h⟩
theorem spot_dir {l:List NodeL}{s:SpotL}(h:SpotW l s) : ∃d:Nat,s.dir=d∧(nd l d).kind=2:=by
 obtain⟨hg,hk⟩:=dir_got h.1.1;obtain⟨d,e,_,h0⟩:=got_nat hg;refine⟨d,e,?_⟩;rw[e,nodeL_nd h0]at hk;exact hk
theorem spot_dots {l:List NodeL}(hr:RightP l){s:SpotL}(h:SpotW l s)(hd:dotsB s.name=true):gotB l s.ino=true∧(nodeL l s.ino).kind=2:=by
 unfold dotsB at hd;simp only[Bool.or_eq_true,decide_eq_true_iff]at hd;have h0:=h.1.1;rcases hd with(hd | hd) | hd
 · rw[h.1.2.1 hd];exact dir_got h0
 · have:s.ino=s.dir:=by rw[h.1.2.2 (by rw[hd];simp),hd];rfl
   rw[this];exact dir_got h0
 · have:s.ino=(nodeL l s.dir).up:=by rw[h.1.2.2 (by rw[hd];simp),hd];rfl
   rw[this];exact dir_got (right_up hr h0)
theorem spot_look {l:List NodeL}{s:SpotL}(h:SpotW l s)(hd:dotsB s.name=false):legalL s.name=0∧s.ino=(findL (nodeL l s.dir).names s.name).getD (-1):=by
 unfold dotsB at hd;simp only[Bool.or_eq_false_iff,decide_eq_false_iff_not]at hd;obtain⟨⟨h0,h1⟩,h2⟩:=hd;refine⟨part_legal (h.2.resolve_left h0) h1 h2,?_⟩;rw[h.1.2.2 h0];unfold lookL;rw[if_neg h1,if_neg h2]
theorem Rig.of {l:List NodeL}(h:RightP l):Rig l∧0<l.length:=by
 obtain⟨most,room,h⟩:=h;obtain⟨a,b,_⟩:=(right_iff l most room).1 h;exact⟨a,b⟩
theorem spot_new {l:List NodeL}(hr:RightP l){s:SpotL}(h:SpotW l s)(hn:s.ino<0){d:Nat}(hd:s.dir=d)(hk:(nd l d).kind=2):legalL s.name=0∧findL (nd l d).names s.name=none∧s.ino = -1:=by
 have h1:dotsB s.name=false:=by
  cases hb:dotsB s.name with
  | false=>rfl
  | true=>have:=got_le (spot_dots hr h hb).1;omega
 obtain⟨h2,h3⟩:=spot_look h h1;rw[hd,nodeL_nd (by rw[hk];decide)]at h3;refine⟨h2,?_⟩
 cases hf:findL (nd l d).names s.name with
 | none=>rw[hf]at h3;exact⟨rfl,h3⟩
 | some i =>
    rw[hf]at h3;obtain⟨j,e,_,_⟩:=(Rig.of hr).1.nam d _ (findL_mem hf);simp only[Option.getD_some]at h3 e;omega
theorem setL_nat {l:List NodeL}{k:Nat}(h:k<l.length)(n:NodeL):setL l (k:Int) n=l.set k n:=by
 unfold setL;rw[if_pos (nat_in h),Int.toNat_natCast]
end Go.Proofs.YtmiekcdkamgknaaGreatDoor
