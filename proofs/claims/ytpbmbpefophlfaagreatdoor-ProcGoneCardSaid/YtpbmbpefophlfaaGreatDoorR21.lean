import Derived.Test.YtpbmbpefophlfaaGreatDoorR20
namespace Go.Proofs.YtpbmbpefophlfaaGreatDoor
open Go.RowKit Go.Shelf
attribute [local go_sem ↓] Go.wp_at_zero Go.wp_at_succ
theorem cells6 {W:World}{b:Nat}{u0 u1 u2 u3 u4 u5:Value}{t:TypeId}{f:Nat × Nat}(h:W.heap[b]? = some (.cells #[u0,u1,u2,u3,u4,u5] t f)) :
 W.cell? ⟨b,0,none⟩=some u0∧W.cell? ⟨b,1,none⟩=some u1∧W.cell? ⟨b,2,none⟩=some u2∧W.cell? ⟨b,3,none⟩=some u3∧W.cell? ⟨b,4,none⟩=some u4∧W.cell? ⟨b,5,none⟩=some u5:=by
 refine⟨?_,?_,?_,?_,?_,?_⟩<;>(rw[Lib.cell_of_heap h];rfl)
theorem grown_setT (W:World)(g o:Nat)(vs:List Value):W.grownBy (W.setCells g o vs) (some g):=by
 have hb:=below_setCells g g (Nat.le_refl g) vs o W;exact⟨hb.os,hb.tape,hb.output,hb.size,fun k _ hk=>heap_setCells g k (fun e=>hk (by rw[e])) vs o W⟩
def TabIs (X:Nat→Prop)(t:TabL)(e:Ending)(w w':World):Prop:=∃vd vf,e = .returned (.agg #[vd,vf])∧TabX t vd vf X w'∧Below w.heap.size w w'
def TabIs2 (X:Nat→Prop)(t:TabL)(x:Value)(n:Int)(e:Ending)(w w':World):Prop:=∃vd vf,e = .returned (.tuple #[.agg #[vd,vf],x, .int .i64 n])∧TabX t vd vf X w'∧Below w.heap.size w w'
theorem OwnT.writeD {tD tS tI:TypeId}{base:Nat}{t:TabL}{vd vf:Value}{rows:List RowV}{W:World}(h:OwnT tD tS tI base t vd vf rows W){g cap:Nat}(e:vd = .slice (some ⟨g,0,none⟩) t.ds.length cap){i:Nat}(hi:i<t.ds.length)(d:DescL)(hS:tS≠tD)(hI:tI≠tD):OwnT tD tS tI base ⟨t.ds.set i d,t.fs⟩ vd vf rows (W.setCells g (i*6) (dcells d)) :=
 h.segD e (cells_set_all _ _ hi d) (by rw[List.length_set]) (by show i*6+6≤_;omega) hS hI rfl (fun k hk=>heap_setCells g k hk _ _ _)
theorem OwnT.writeF {tD tS tI:TypeId}{base:Nat}{t:TabL}{vd vf:Value}{rows:List RowV}{W:World}(h:OwnT tD tS tI base t vd vf rows W){p k g cr:Nat}(hp:p<t.fs.length)(hk:k<(t.fs[p]).length)(hr:rows[p]? = some (t.fs[p], .slice (some ⟨g,0,none⟩) (t.fs[p]).length cr))(v:Int)(hD:tD≠tI)(hS:tS≠tI) :
 OwnT tD tS tI base ⟨t.ds,putF t.fs p k v⟩ vd vf (rows.set p ((t.fs[p]).set k v, .slice (some ⟨g,0,none⟩) (t.fs[p]).length cr)) (W.setCell ⟨g,k,none⟩ (.int .i64 v)) :=
 h.segF hp hk hr v hD hS rfl (fun k' hk'=>heap_setCells g k' hk' [.int .i64 v] _ _)
theorem OwnT.before {tD tS tI:TypeId}{base:Nat}{t:TabL}{vd vf:Value}{rows:List RowV}{W W':World}(h:OwnT tD tS tI base t vd vf rows W){g:Nat}(hg:g<base)(ho : ∀k,k≠g→W'.heap[k]? = W.heap[k]?):OwnT tD tS tI base t vd vf rows W':=by
 (have ne : ∀ {e':TypeId} {s n:Nat} {v:Value} {xs:List Value},W.ownsRow base e' s v n xs→v.ownBlock≠some g:=fun h hv=>by have:=(h.lt g hv).1;omega);exact⟨h.fs,own_other h.ds (ne h.ds) ho,own_other h.out (ne h.out) ho,fun m hm=>own_other (h.row m hm) (ne (h.row m hm)) ho,h.apart⟩
theorem Sf.ids {X:Nat→Prop}{w W:World}{B:List Bl}{G:List Thing}(h:Sf X w B G W) : ∀g∈B.map (·.1),g<W.heap.size:=fun g hg=>by
 obtain⟨x,hx,rfl⟩:=List.mem_map.1 hg;exact h.lt hx
theorem wpList_store_seg {P:Program}{ops:Array Oper}{rest:List Oper}{op:Oper}{a:Act}{w:World}{Q:Exit→Act→World→Prop}(hgd:op.guard=none)(ty:TypeId)(x y:Operand)(ho:op.op = .store ty x y)
 (b o:Nat) {cells:List Value} (hx:a.eval x = .pointer (some ⟨b,o,none⟩)) (hy:a.eval y = .agg cells.toArray) (ht:w.there b o cells.length) (hi:(P.info? ty).map (·.size)=some cells.length) (h1:cells.all (·.oneCell')=true)
 (h:wpList P ops Q rest (a.put op.dst undef) (w.setCells b o cells)):wpList P ops Q (op::rest) a w :=
  wpList_store_mid hgd ty x y ho b o cells.toArray hx hy (by rw[List.size_toArray];exact ht) (by simpa using hi) (all_oneCell_toArray fun v hv=>List.all_eq_true.1 h1 v hv) h
end Go.Proofs.YtpbmbpefophlfaaGreatDoor
