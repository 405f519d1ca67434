import Derived.Test.YtmiekcdkamgknaaGreatDoorR26
import Derived.Test.YtmiekcdkamgknaaGreatDoorR31
import Derived.Test.YtmiekcdkamgknaaGreatDoorR24
import Derived.Deep.RegionHeld3
import Derived.WalkMore
import Derived.Deep.DrawnRows
import Derived.Laws.Cover1
import Derived.Lib.Bytealg
import Derived.Test.YtmiekcdkamgknaaGreatDoorProg
namespace Go.Proofs.YtmiekcdkamgknaaGreatDoor
open Go.RowKit Go.Shelf
abbrev dvalD (d:DescL):Value:= .agg #[.int .i64 d.ino, .int .i64 d.pos, .bool d.rd, .bool d.wr, .int .i64 d.refs, .int .i64 d.lock]
def dcells (d:DescL):List Value:= [.int .i64 d.ino, .int .i64 d.pos, .bool d.rd, .bool d.wr, .int .i64 d.refs, .int .i64 d.lock]
def cellsD (ds:List DescL):List Value:=ds.flatMap dcells
def intC (r:List Int):List Value:=r.map fun x=> .int .i64 x
theorem cellsD_cons (d:DescL)(ds:List DescL):cellsD (d::ds)=dcells d++cellsD ds:=by simp[cellsD]
theorem cellsD_app (a b:List DescL):cellsD (a++b)=cellsD a++cellsD b:=by simp[cellsD]
theorem cellsD_at (ds:List DescL)(k:Nat)(h:k<ds.length)(j:Nat)(hj:j<6):(cellsD ds)[k*6+j]? = (dcells ds[k])[j]?:= by
 induction ds generalizing k with
 | nil=>simp at h
 | cons d ds ih =>
    have l6:(dcells d).length=6:=rfl;rw[cellsD_cons]
    cases k with
    | zero =>
       rw[List.getElem?_append_left (by omega)];simp
    | succ k =>
       rw[List.getElem?_append_right (by omega),l6,show(k+1)*6+j-6=k*6+j by omega];exact ih k (by simpa using h)
theorem cellsD_one (ds:List DescL) : ∀u∈cellsD ds,u.oneCell'=true:=by
 intro u hu;obtain⟨d,_,hu⟩:=List.mem_flatMap.1 hu;simp only[dcells,List.mem_cons,List.not_mem_nil,or_false]at hu;rcases hu with rfl | rfl | rfl | rfl | rfl | rfl<;>rfl
theorem dcells_one (d:DescL) : ∀u∈dcells d,u.oneCell'=true:=fun u hu=>cellsD_one [d] u (by simpa[cellsD]using hu)
theorem intC_at (r:List Int)(k:Nat)(h:k<r.length):(intC r)[k]? = some (.int .i64 r[k]):=by unfold intC;rw[List.getElem?_map,List.getElem?_eq_getElem h];rfl
abbrev RowV:=List Int × Value
def TabX (t:TabL)(vd vf:Value):Thing:=fun X W=>∃rows:List RowV,rows.map (·.1)=t.fs∧RdX 6 vd t.ds.length (cellsD t.ds) X W∧RdX 1 vf rows.length (rows.map (·.2)) X W∧∀m,m∈rows→RdX 1 m.2 m.1.length (intC m.1) X W
theorem TabX.firm (t:TabL)(vd vf:Value):Firm (TabX t vd vf) :=
 Firm.ex fun _=>(Firm.pure _).and ((RdX.firm _ _ _ _).and ((RdX.firm _ _ _ _).and (Firm.all fun _=>RdX.firm _ _ _ _)))
abbrev tabV (ad:Option Addr)(n cap:Nat)(af:Option Addr)(m capf:Nat):Value:= .agg #[.slice ad n cap, .slice af m capf]
theorem rows_len {rows:List RowV}{fs:List (List Int)}(h:rows.map (·.1)=fs):rows.length=fs.length:=by rw[←h,List.length_map]
section
variable {t:TabL} {vd vf:Value} {X:Nat→Prop} {W:World}
theorem TabX.form (h:TabX t vd vf X W) : ∃ad cap af capf,vd = .slice ad t.ds.length cap∧vf = .slice af t.fs.length capf:=by
 obtain⟨rows,e,h1,h2,_⟩:=h;obtain⟨ad,cap,rfl⟩:=h1.form;obtain⟨af,capf,rfl⟩:=h2.form;exact⟨ad,cap,af,capf,rfl,by rw[rows_len e]⟩
theorem TabX.row {ad af:Option Addr}{cap capf:Nat}(h:TabX t (.slice ad t.ds.length cap) (.slice af t.fs.length capf) X W)(k:Nat)(hk:k<t.fs.length) :
 ∃b off ar cr,af=some ⟨b,off,none⟩∧b<W.heap.size∧W.cell? ⟨b,off+k,none⟩=some (.slice ar (t.fs[k]).length cr)∧RdX 1 (.slice ar (t.fs[k]).length cr) (t.fs[k]).length (intC t.fs[k]) X W:=by
 obtain⟨rows,e,h1,h2,h3⟩:=h;have hl:=rows_len e;(have hk':k<rows.length:=by omega);obtain⟨b,off,c,e1,_,_,hb,_,hc⟩:=h2.1.at (by omega);injection e1 with e1 e2 e3;subst e1;have h4:=h3 _ (List.getElem_mem hk')
 have e5:rows[k].1=t.fs[k]:=by
  (have:(rows.map (·.1))[k]? = t.fs[k]?:= by rw[e]);rw[List.getElem?_map,List.getElem?_eq_getElem hk',List.getElem?_eq_getElem hk]at this;simpa using this
 rw[e5]at h4;obtain⟨ar,cr,e6⟩:=h4.form;rw[e6]at h4;refine⟨b,off,ar,cr,rfl,hb,?_,h4⟩;refine hc k _ ?_;rw[List.getElem?_map,List.getElem?_eq_getElem hk',←e6];rfl
theorem RdX.int {r:List Int}{ar:Option Addr}{cr:Nat}(h:RdX 1 (.slice ar r.length cr) r.length (intC r) X W)(k:Nat)(hk:k<r.length) : ∃b off,ar=some ⟨b,off,none⟩∧W.cell? ⟨b,off+k,none⟩=some (.int .i64 r[k]):=by
 obtain⟨b,off,c,e1,_,_,hb,_,hc⟩:=h.1.at (by omega);injection e1 with e1 e2 e3;subst e1;exact⟨b,off,rfl,hc k _ (intC_at r k hk)⟩
theorem TabX.desc {ad af:Option Addr}{cap capf:Nat}(h:TabX t (.slice ad t.ds.length cap) (.slice af t.fs.length capf) X W)(k:Nat)(hk:k<t.ds.length) :
 ∃b off,ad=some ⟨b,off,none⟩∧W.cell? ⟨b,off+k*6,none⟩=some (.int .i64 (t.ds[k]).ino)∧W.cell? ⟨b,off+k*6+1,none⟩=some (.int .i64 (t.ds[k]).pos)∧W.cell? ⟨b,off+k*6+2,none⟩=some (.bool (t.ds[k]).rd)
  ∧ W.cell? ⟨b,off+k*6+3,none⟩=some (.bool (t.ds[k]).wr)∧W.cell? ⟨b,off+k*6+4,none⟩=some (.int .i64 (t.ds[k]).refs)∧W.cell? ⟨b,off+k*6+5,none⟩=some (.int .i64 (t.ds[k]).lock):=by
 obtain⟨rows,e,h1,h2,h3⟩:=h;obtain⟨b,off,c,e1,_,_,hb,_,hc⟩:=h1.1.at (by omega);injection e1 with e1 e2 e3;subst e1;(have g:=fun(j:Nat) (hj:j<6) (u:Value) (hu:(dcells t.ds[k])[j]? = some u)=>(show W.cell? ⟨b,off+k*6+j,none⟩=some u by rw[Nat.add_assoc];exact hc _ u ((cellsD_at _ k hk j hj).trans hu)));exact⟨b,off,rfl,g 0 (by omega) _ rfl,g 1 (by omega) _ rfl,g 2 (by omega) _ rfl,g 3 (by omega) _ rfl,g 4 (by omega) _ rfl,g 5 (by omega) _ rfl⟩
end
structure OwnT (tD tS tI:TypeId) (base:Nat) (t:TabL) (vd vf:Value) (rows:List RowV) (W:World):Prop where
 fs:rows.map (·.1)=t.fs
 ds:W.ownsRow base tD 6 vd t.ds.length (cellsD t.ds)
 out:W.ownsRow base tS 1 vf rows.length (rows.map (·.2))
 row : ∀m∈rows,W.ownsRow base tI 1 m.2 m.1.length (intC m.1)
 apart : ∀(i j:Nat) (a b:RowV),rows[i]? = some a→rows[j]? = some b→i≠j→∀g,a.2.ownBlock=some g→b.2.ownBlock≠some g
section
variable {tD tS tI:TypeId} {base:Nat} {t:TabL} {vd vf:Value} {rows:List RowV} {X:Nat→Prop} {W W':World}
theorem OwnT.tab (h:OwnT tD tS tI base t vd vf rows W)(hX : ∀g,X g→g<base):TabX t vd vf X W :=
 ⟨rows,h.fs,RdX.own h.ds hX,RdX.own h.out hX,fun m hm=>RdX.own (h.row m hm) hX⟩
theorem OwnT.below (h:OwnT tD tS tI base t vd vf rows W)(hb:Below W.heap.size W W'):OwnT tD tS tI base t vd vf rows W' :=
 ⟨h.fs,ownsRow_below h.ds hb (Nat.le_refl _),ownsRow_below h.out hb (Nat.le_refl _),fun m hm=>ownsRow_below (h.row m hm) hb (Nat.le_refl _),h.apart⟩
theorem own_type {b:Nat}{e:TypeId}{s n:Nat}{v:Value}{xs:List Value}(h:W.ownsRow b e s v n xs){g:Nat}(hg:v.ownBlock=some g) : ∃cs,W.heap[g]? = some (.cells cs e (0,0)):=by
 rcases h.2 with⟨rfl,_⟩ | ⟨g',cap,cur,rfl,_,h2,_⟩
 · cases hg
 · have:g'=g:=by injection hg
   subst this;exact⟨cur,h2⟩
theorem own_other {b:Nat}{e:TypeId}{s n:Nat}{v:Value}{xs:List Value}(h:W.ownsRow b e s v n xs){g:Nat}(hg:v.ownBlock≠some g)(ho : ∀k,k≠g→W'.heap[k]? = W.heap[k]?):W'.ownsRow b e s v n xs:=by
 refine⟨h.1,h.2.imp id ?_⟩;rintro⟨g',cap,cur,rfl,h1,h2,h3⟩;exact⟨g',cap,cur,rfl,h1,(ho g' (fun e=>hg (by rw[e];rfl))).trans h2,h3⟩
theorem OwnT.other (h:OwnT tD tS tI base t vd vf rows W){g:Nat}{cs:Array Value}{e:TypeId}(hg:W.heap[g]? = some (.cells cs e (0,0)))(hD:e≠tD)(hS:e≠tS)(hI:e≠tI)(ho : ∀k,k≠g→W'.heap[k]? = W.heap[k]?):OwnT tD tS tI base t vd vf rows W':=by
 have ne : ∀ {b:Nat} {e':TypeId} {s n:Nat} {v:Value} {xs:List Value},W.ownsRow b e' s v n xs→e≠e'→v.ownBlock≠some g:=fun h he hv=>by
  obtain⟨cs',h2⟩:=own_type h hv;rw[hg]at h2;injection h2 with h2;injection h2 with _ h2;exact he h2
 exact⟨h.fs,own_other h.ds (ne h.ds hD) ho,own_other h.out (ne h.out hS) ho,fun m hm=>own_other (h.row m hm) (ne (h.row m hm) hI) ho,h.apart⟩
theorem take_seg {α:Type}(L vs:List α)(o m:Nat)(h:m≤L.length)(ho:o+vs.length≤m):(L.take o++(vs++L.drop (o+vs.length))).take m=(L.take m).take o++(vs++(L.take m).drop (o+vs.length)):=by
 (have l1:(L.take o).length=o:=by rw[List.length_take];omega);(have l2:((L.take m).take o).length=o:=by rw[List.length_take,List.length_take];omega);apply List.ext_getElem?;intro j;rw[List.getElem?_take];by_cases hj:j<m
 · rw[if_pos hj]
   by_cases h9:j<o
   · rw[List.getElem?_append_left (by omega),List.getElem?_append_left (by omega),List.getElem?_take,List.getElem?_take,List.getElem?_take,if_pos hj]
   · have e1:(L.take o++(vs++L.drop (o+vs.length)))[j]? = (vs++L.drop (o+vs.length))[j-o]?:= by rw[List.getElem?_append_right (by omega),l1]
     (have e2:((L.take m).take o++(vs++(L.take m).drop (o+vs.length)))[j]? = (vs++(L.take m).drop (o+vs.length))[j-o]?:= by rw[List.getElem?_append_right (by omega),l2]);rw[e1,e2];by_cases h10:j-o<vs.length
     · rw[List.getElem?_append_left h10,List.getElem?_append_left h10]
     · have e3:(vs++L.drop (o+vs.length))[j-o]? = L[j]?:= by rw[List.getElem?_append_right (by omega),List.getElem?_drop];congr 1;omega
       (have e4:(vs++(L.take m).drop (o+vs.length))[j-o]? = L[j]?:= by rw[List.getElem?_append_right (by omega),List.getElem?_drop,show o+vs.length+(j-o-vs.length)=j by omega,List.getElem?_take,if_pos hj]);rw[e3,e4]
 · rw[if_neg hj]
   symm;rw[List.getElem?_eq_none];rw[List.length_append,List.length_append,l2,List.length_drop,List.length_take];omega
theorem own_seg {b:Nat}{e:TypeId}{s n:Nat}{g cap:Nat}{xs ys:List Value}(h:W.ownsRow b e s (.slice (some ⟨g,0,none⟩) n cap) n xs){o:Nat}{vs:List Value}(ho:o+vs.length≤n*s)
 (hy:ys=xs.take o++(vs++xs.drop (o+vs.length))) (hg:W'.heap[g]? = (W.setCells g o vs).heap[g]?):W'.ownsRow b e s (.slice (some ⟨g,0,none⟩) n cap) n ys:=by
  rcases h.2 with⟨e1,_⟩ | ⟨g',cap',cur,e1,h1,h2,h3,h4,h5,h6⟩
  · cases e1
  injection e1 with e1 e2 e3;injection e1 with e1;injection e1 with e1 _ _;subst e1;subst e3;have hl:=h.1;obtain⟨cs',h7,h8⟩:=heap_setCells_same vs o W cur h2
  have hcs:cs'.toList=cur.toList.take o++(vs++cur.toList.drop (o+vs.length)):=by
   have hr:=World.rangeAt_setCells_same W g o vs (by
    intro j hj;refine⟨?_,Lib.frozen_of_heap h2 _⟩;rw[Lib.cell_of_heap h2,Array.getElem?_eq_getElem (by have:n*s≤cap*s:=Nat.mul_le_mul_right _ h3;omega)]
    rfl)
   have hoth : ∀j,(j<o∨o+vs.length≤j)→cs'[j]? = cur[j]?:= fun j hj=>by
    have:=World.cell?_setCells_out g vs o W ⟨g,j,none⟩ (fun _ _=>hj);rw[Lib.cell_of_heap h7,Lib.cell_of_heap h2]at this;exact this
   apply List.ext_getElem?;intro j;rw[Array.getElem?_toList];have hsz:n*s≤cap*s:=Nat.mul_le_mul_right _ h3;by_cases hj:j<o
   · rw[hoth j (.inl hj),List.getElem?_append_left (by rw[List.length_take,Array.length_toList];omega),List.getElem?_take,if_pos hj,Array.getElem?_toList]
   · have hlt:(cur.toList.take o).length=o:=by rw[List.length_take,Array.length_toList];omega
     rw[List.getElem?_append_right (by omega),hlt];by_cases hj2:j<o+vs.length
     · rw[List.getElem?_append_left (by omega)]
       have hr2:=hr (j-o) _ (List.getElem?_eq_getElem (show j-o<vs.length by omega));rw[Lib.cell_of_heap h7,show o+(j-o)=j by omega]at hr2;rw[hr2,List.getElem?_eq_getElem (by omega)]
     · rw[hoth j (.inr (by omega)),List.getElem?_append_right (by omega),List.getElem?_drop,Array.getElem?_toList]
       congr 1;omega
  refine⟨?_, .inr ⟨g,cap,cs',rfl,h1,hg.trans h7,h3,h4,by rw[h8];exact h5,?_⟩⟩
  · rw[hy,List.length_append,List.length_append,List.length_take,List.length_drop]
    omega
  · rw[hcs,hy,←h6]
    exact take_seg _ _ _ _ (by have:n*s≤cap*s:=Nat.mul_le_mul_right _ h3;rw[Array.length_toList];omega) ho
theorem own_at {b:Nat}{e:TypeId}{s n:Nat}{v:Value}{xs:List Value}(h:W.ownsRow b e s v n xs)(hn:0<n) : ∃g cap,v = .slice (some ⟨g,0,none⟩) n cap∧g<W.heap.size∧(∀j u,xs[j]? = some u→W.cell? ⟨g,j,none⟩=some u)∧(∀j,W.frozen? ⟨g,j,none⟩=false):=by
 rcases h.2 with⟨_,h0⟩ | ⟨g,cap,cur,rfl,h1,h2,h3,h4,h5,h6⟩
 · omega
 refine⟨g,cap,rfl,(Array.getElem?_eq_some_iff.1 h2).1,fun j u hu=> ?_,fun j=>Lib.frozen_of_heap h2 j⟩;rw[Lib.cell_of_heap h2];rw[←h6,List.getElem?_take]at hu;split at hu
 · rw[←Array.getElem?_toList];exact hu
 · cases hu
end
end Go.Proofs.YtmiekcdkamgknaaGreatDoor
namespace Go.Proofs.YtmiekcdkamgknaaGreatDoor
open Go.RowKit Go.Shelf
attribute [local go_sem ↓] Go.wp_at_zero Go.wp_at_succ
theorem results_tct {P:Program}{fn:Func}{p u v:Tmp}{ty:TypeId}(h:fn.results = #[.tmp u, .cell p ty, .tmp v])(tmps:Array Value)(w:World)(g:Nat)(t:TypeId)(cs:Array Value)(fr:Nat × Nat)(d:TypeDesc)
 (hp:tmps.getD p undef = .pointer (some ⟨g,0,none⟩)) (hg:w.heap[g]? = some (.cells cs t fr)) (hu:P.underlying ty=some d) (hd:(match d with | .struct _ | .array _ _=>true | _=>false)=true) (hi:(P.info? ty).map (·.size)=some cs.size) :
 (results fn tmps).run P w = .ok (.tuple #[tmps.getD u undef, .agg cs,tmps.getD v undef]) w:=by
  (have hp':tmps[p]?.getD undef = .pointer (some ⟨g,0,none⟩):=by simpa using hp);simp[results,h,hp',asAddr,run_loadVar_row w g t ty cs fr d hg hu hd hi,Result.andThen]
theorem TabX.range {t:TabL}{X:Nat→Prop}{W:World}{ad af:Option Addr}{cap capf:Nat}(h:TabX t (.slice ad t.ds.length cap) (.slice af t.fs.length capf) X W)(k:Nat)(hk:k<t.ds.length) : ∃b off,ad=some ⟨b,off,none⟩∧W.rangeAt b (off+k*6) (dcells t.ds[k]):=by
 obtain⟨b,off,e,c0,c1,c2,c3,c4,c5⟩:=h.desc k hk;refine⟨b,off,e,fun j v hv=> ?_⟩
 have hj:j<6:=by
  rcases Nat.lt_or_ge j 6 with h | h
  · exact h
  · rw[List.getElem?_eq_none (by exact h)]at hv;cases hv
 (have:j=0∨j=1∨j=2∨j=3∨j=4∨j=5:=by omega);rcases this with rfl | rfl | rfl | rfl | rfl | rfl<;>(injection hv with hv;subst hv;assumption)
theorem no_get {t:TabL}{p fd:Int}(h:hasT t p fd=false):placeT t p fd = -1∧foundT t p fd=zeroD:=by
 unfold placeT foundT;rw[if_neg (by simp[h]),if_neg (by simp[h])];exact⟨rfl,rfl⟩
def GotIs (t:TabL)(p fd:Int)(e:Ending):Prop:=e = .returned (.tuple #[.int .i64 (placeT t p fd),dvalD (foundT t p fd), .bool (hasT t p fd)])
theorem got_no {t:TabL}{p fd:Int}(h:hasT t p fd=false):GotIs t p fd (.returned (.tuple #[.int .i64 (-1), .agg #[.int .i64 0, .int .i64 0, .bool false, .bool false, .int .i64 0, .int .i64 0], .bool false])):=by
 unfold GotIs;rw[(no_get h).1,(no_get h).2,h];rfl
theorem has_no3 {t:TabL}{p fd:Int}(h:fd<0):hasT t p fd=false:=by unfold hasT;rw[decide_eq_false (show ¬0≤fd by omega)];simp
theorem has_no4 {t:TabL}{k:Nat}{fd:Int}(hk:k<t.fs.length)(h:((t.fs[k]).length:Int)≤fd):hasT t (k:Int) fd=false:=by unfold hasT;rw[row_at hk,decide_eq_false (show ¬fd<((t.fs[k]).length:Int)by omega)];simp
theorem has_no5 {t:TabL}{k m:Nat}(hk:k<t.fs.length)(hm:m<(t.fs[k]).length)(h:(t.fs[k])[m]<0):hasT t (k:Int) (m:Int)=false:=by unfold hasT;rw[row_at hk,at_R hm,decide_eq_false (show ¬0≤(t.fs[k])[m]by omega)];simp
theorem has_yes {t:TabL}{k m:Nat}(hk:k<t.fs.length)(hm:m<(t.fs[k]).length)(h:0≤(t.fs[k])[m]):hasT t (k:Int) (m:Int)=true:=by
 unfold hasT inT;rw[row_at hk,at_R hm,decide_eq_true h,decide_eq_true (show(0:Int)≤(k:Int)by omega),decide_eq_true (show(k:Int)<(t.fs.length:Int)by omega),decide_eq_true (show(0:Int)≤(m:Int)by omega),decide_eq_true (show(m:Int)<((t.fs[k]).length:Int)by omega)];rfl
def SizeT (t:TabL):Prop:=t.ds.length≤1000∧t.fs.length≤20∧∀r∈t.fs,r.length≤20
theorem count_step (r:List Int)(k:Nat)(h:k<r.length):countR (r.take (k+1))=countR (r.take k)+if 0≤r[k]then 1 else 0:=by
 unfold countR;rw[List.take_succ_eq_append_getElem h,List.countP_append,List.countP_singleton];simp only[decide_eq_true_eq]
theorem count_le (r:List Int):countR r≤r.length:=List.countP_le_length
set_option maxRecDepth 100000 in
set_option maxHeartbeats 4000000 in
theorem rcount_c {X:Nat→Prop}(t:TabL)(ad af:Option Addr)(cap capf:Nat)(w:World)(hT:TabX t (.slice ad t.ds.length cap) (.slice af t.fs.length capf) X w)(p:Int)(hz:SizeT t) :
 Calls Tryz.prog 21 #[tabV ad t.ds.length cap af t.fs.length capf, .int .i64 p] w fun e w'=>e = .returned (.int .i64 (countT t p))∧Below w.heap.size w w':=by
 have S0:=zd (Sf.start (w:=w) (X:=fun _=>False) (G:= [TabX t (.slice ad t.ds.length cap) (.slice af t.fs.length capf)]) (fun _ h=>h.elim) (th1 (TabX.firm _ _ _) ((TabX.firm _ _ _).sub hT fun _ h=>h.elim)));have HZ:=zd hz;clear hT hz;go_enter Tryz.func21,Tryz.ntmps21;go_upto_region 1 with(fail);refine code_fresh1 ?_;intro W1 hb hA0 hs;have S1:=zd (S0.out.new1 hb hA0);clear hb hA0 hs;obtain⟨d0,d1⟩:=cells2 (S1.out.at 0 rfl);by_cases h1:p<0
 · have i1:decide (p<0)=true:=decide_eq_true h1
   have HC:Hid (countT t p=0):=zd (by unfold countT inT;rw[decide_eq_false (show ¬0≤p by omega)];rfl);go_wp2_with fail;go_ret;exact⟨by rw[HC.out];rfl,S1.out.bel⟩
 · have i1:decide (p<0)=false:=decide_eq_false h1
   by_cases h2:(t.fs.length:Int)≤p
   · have i2:decide ((t.fs.length:Int)≤p)=true:=decide_eq_true h2
     have HC:Hid (countT t p=0):=zd (by unfold countT inT;rw[decide_eq_false (show ¬p<(t.fs.length:Int)by omega)];simp);go_wp2_with fail;go_ret;exact⟨by rw[HC.out];rfl,S1.out.bel⟩
   · have i2:decide ((t.fs.length:Int)≤p)=false:=decide_eq_false h2
     obtain⟨a,rfl⟩:=Int.eq_ofNat_of_zero_le (show 0≤p by omega);have i21:decide (t.fs.length≤a)=false:=decide_eq_false (by omega);(have ha:a<t.fs.length:=by omega);(have a0:(0:Int)≤(a:Int):=by omega);(have a1:(a:Int)<(t.fs.length:Int):=by omega);clear h1 h2;have HC:Hid (countT t a=countR (t.fs[a])):=zd (by unfold countT inT;rw[decide_eq_true (show(0:Int)≤(a:Int)by omega),decide_eq_true (show(a:Int)<(t.fs.length:Int)by omega),row_at ha];rfl);have hzr:=HZ.out.2.2 _ (List.getElem_mem ha);obtain⟨b,off,ar,cr,eaf,_,cR,hR⟩:=TabX.row (S1.out.g 0 rfl) a ha;subst eaf;obtain⟨r,hrow⟩ : ∃r,r=t.fs[a]:=⟨_,rfl⟩;rw[←hrow]at cR hR HC hzr;clear hrow;go_wp2_with fail;go_loop [5,6] (fun n i=>∃k:Nat,i = .int .i64 k∧k≤r.length∧n = .int .i64 (countR (r.take k):Nat)) (fun _ i=>r.length-(RowKit.intOf i).toNat)
     case atStart=>exact⟨0,rfl,Nat.zero_le _,rfl⟩
     case round =>
      obtain⟨k,rfl,hk,rfl⟩:=hrel;by_cases hlt:k<r.length
      · have iL:decide (k<r.length)=true:=decide_eq_true hlt
        have iL2:decide ((k:Int)<(r.length:Int))=true:=decide_eq_true (by omega);obtain⟨b2,off2,ear,cI⟩:=RdX.int hR k hlt;subst ear;obtain⟨v,hv⟩ : ∃v,v=r[k]:=⟨_,rfl⟩;have HS:=zd (count_step r k hlt);have hle:countR (r.take k)≤20:=Nat.le_trans (count_le _) (by rw[List.length_take];omega);rw[←hv]at cI HS;(have k0:(0:Int)≤(k:Int):=by omega);(have k1:(k:Int)<(r.length:Int):=by omega);have w1:IntKind.i64.wrap ((k:Int)+1)=(k:Int)+1:=Go.IntWalk.i64_in _ (by omega);obtain⟨c,hc⟩ : ∃c,c=countR (r.take k):=⟨_,rfl⟩;rw[←hc]at HS hle ⊢;have w2:IntKind.i64.wrap ((c:Int)+1)=(c:Int)+1:=Go.IntWalk.i64_in _ (by omega);by_cases h5:0≤v
        · have i5:decide (0≤v)=true:=decide_eq_true h5
          have HS2:=zd (HS.out.trans (by rw[if_pos h5]));clear hv h5 hc;go_wp2_with fail;go_round
          case rel=>exact⟨k+1,by go_num,hlt,by rw[HS2.out];go_num⟩
          case measure=>simp[RowKit.intOf];omega
        · have i5:decide (0≤v)=false:=decide_eq_false h5
          have HS2:=zd (HS.out.trans (by rw[if_neg h5]));clear hv h5 hc;go_wp2_with fail;go_round
          case rel=>exact⟨k+1,by go_num,hlt,by rw[HS2.out];rfl⟩
          case measure=>simp[RowKit.intOf];omega
      · have iL:decide (k<r.length)=false:=decide_eq_false hlt
        have iL2:decide ((k:Int)<(r.length:Int))=false:=decide_eq_false (by omega);have HF:Hid (r.take k=r):=zd (List.take_of_length_le (by omega));clear hlt;go_wp2_with fail;go_ret;refine⟨?_,S1.out.bel⟩;rw[HC.out,HF.out];rfl
end Go.Proofs.YtmiekcdkamgknaaGreatDoor
namespace Go.Proofs.YtmiekcdkamgknaaGreatDoor
open Go.RowKit Go.Shelf
attribute [local go_sem ↓] Go.wp_at_zero Go.wp_at_succ
theorem gr_below {w W W':World}{row:Option Nat}(hb:Below w.heap.size w W)(hg:W.grownBy W' row)(hrow : ∀g,row=some g→w.heap.size≤g):Below w.heap.size w W' :=
 hb.grown hg hb.size hrow
theorem Sf.grown {X:Nat→Prop}{w W W':World}{B:List Bl}{G:List Thing}{row:Option Nat}(h:Sf X w B G W)(h0 : ∀P∈G,P X w)(hg:W.grownBy W' row)(hrow : ∀g,row=some g→w.heap.size≤g∧∀x∈B,x.1≠g):Sf X w B G W':=by
 (have hb:=gr_below h.bel hg fun g e=>(hrow g e).1);refine⟨hb,h.old,fun x hx=>⟨(hg.block x.1 (h.lt hx) fun e=>(hrow x.1 e.symm).2 x hx rfl).trans (h.blk x hx).1,(h.blk x hx).2⟩,h.nd,fun P hP=>⟨(h.gv P hP).1,(h.gv P hP).1.add (h0 P hP) hb fun g hg=> ?_⟩⟩;rcases hg with hg | hg
 · exact .inl hg
 · obtain⟨x,hx,rfl⟩:=List.mem_map.1 hg
   exact .inr (h.blk x hx).2
theorem Sf.apart {X:Nat→Prop}{w W:World}{B:List Bl}{G:List Thing}(h:Sf X w B G W){b:Nat}{e:TypeId}{s n:Nat}{v:Value}{xs:List Value}(ho:W.ownsRow b e s v n xs)(hne:(B.map (·.2.2)).contains e=false) : ∀g,v.ownBlock=some g→∀x∈B,x.1≠g:=by
 intro g hg x hx e1;obtain⟨cs,h1⟩:=own_type ho hg;rw[←e1,(h.blk x hx).1]at h1;injection h1 with h1;injection h1 with _ h1;have h2:(B.map (·.2.2)).contains e=true:=List.contains_iff_mem.2 (h1▸List.mem_map.2 ⟨x,hx,rfl⟩);rw[hne]at h2
 cases h2
theorem OwnT.nil (tD tS tI:TypeId){base:Nat}{ds:List DescL}{vd:Value}{W:World}(h:W.ownsRow base tD 6 vd ds.length (cellsD ds)):OwnT tD tS tI base ⟨ds,[]⟩ vd (.slice none 0 0) [] W :=
 ⟨rfl,h,World.ownsRow_nil _ _ _ _,(fun m hm=>by cases hm),fun i j a b ha _ _=>by cases ha⟩
theorem own_emptyT {W:World}{g s:Nat}{e:TypeId}(h:W.heap[g]? = some (.cells #[] e (0,0))):W.ownsRow g e s (.slice (some ⟨g,0,none⟩) 0 0) 0 []:=⟨by simp, .inr ⟨g,0,#[],rfl,Nat.le_refl _,h,Nat.le_refl _,Nat.zero_le _,by simp,by simp⟩⟩
theorem OwnT.push {tD tS tI:TypeId}{base:Nat}{ds:List DescL}{fs:List (List Int)}{vd vf:Value}{rows:List RowV}{W0 W1 W2:World}(h:OwnT tD tS tI base ⟨ds,fs⟩ vd vf rows W0)(hb:Below W0.heap.size W0 W1){r:List Int}{v vf':Value}
 (hv:W1.ownsRow base tI 1 v r.length (intC r)) (hn : ∀g,v.ownBlock=some g→W0.heap.size≤g) (hf:W2.ownsRow base tS 1 vf' (rows.length+1) (rows.map (·.2)++ [v])) (hg:W1.grownBy W2 vf.ownBlock) (hD:tS≠tD) (hI:tS≠tI):OwnT tD tS tI base ⟨ds,fs++ [r]⟩ vd vf' (rows++ [(r,v)]) W2:=by
  have h1:=h.below hb
  have keep : ∀ {e:TypeId} {s n:Nat} {u:Value} {xs:List Value},W1.ownsRow base e s u n xs→tS≠e→W2.ownsRow base e s u n xs:=fun h' he=>by
   refine⟨h'.1,h'.2.imp id ?_⟩;rintro⟨g',cap,cur,rfl,k1,k2,k3⟩;refine⟨g',cap,cur,rfl,k1,(hg.block g' (Array.getElem?_eq_some_iff.1 k2).1 fun e=> ?_).trans k2,k3⟩;exact own_ne h1.out h' he g' e.symm rfl
  refine⟨by rw[List.map_append,h.fs];rfl,keep h1.ds hD,by rw[List.length_append,List.map_append];exact hf,fun m hm=> ?_,?_⟩
  · rcases List.mem_append.1 hm with hm | hm
    · exact keep (h1.row m hm) hI
    · rw[List.mem_singleton]at hm;subst hm;exact keep hv hI
  · have hlt : ∀(i:Nat) (a:RowV),rows[i]? = some a→∀g,a.2.ownBlock=some g→g<W0.heap.size:=fun i a ha g hg=>by
     obtain⟨cs,hc⟩:=own_type (h.row a (List.mem_of_getElem? ha)) hg;exact(Array.getElem?_eq_some_iff.1 hc).1
    have at' : ∀(i:Nat) (a:RowV),(rows++ [(r,v)])[i]? = some a→(i<rows.length∧rows[i]? = some a)∨(i=rows.length∧a=(r,v)):=fun i a ha=>by
     rw[List.getElem?_append]at ha;split at ha
     · rename_i hi;exact .inl ⟨hi,ha⟩
     · rename_i hi
       have:i-rows.length=0:=by
        rcases Nat.eq_zero_or_pos (i-rows.length)with h0 | h0
        · exact h0
        · rw[List.getElem?_eq_none (by rw[List.length_singleton];omega)]at ha;cases ha
       rw[this]at ha;injection ha with ha;exact .inr ⟨by omega,ha.symm⟩
    intro i j a b ha hb' hne g hga hgb;rcases at' i a ha with⟨hi,ha⟩ | ⟨hi,rfl⟩
    · rcases at' j b hb' with⟨hj,hb'⟩ | ⟨hj,rfl⟩
      · exact h.apart i j a b ha hb' hne g hga hgb
      · have:=hlt i a ha g hga;have:=hn g hgb;omega
    · rcases at' j b hb' with⟨hj,hb'⟩ | ⟨hj,rfl⟩
      · have:=hlt j b hb' g hgb;have:=hn g hga;omega
      · omega
theorem infoDescR:(Tryz.prog.info? 72).map (fun i=>(i.zero,i.size,i.bytes))=some (some (.agg #[.int .i64 0, .int .i64 0, .bool false, .bool false, .int .i64 0, .int .i64 0]),6,40):=by kernel_rfl
theorem infoInt:(Tryz.prog.info? 3).map (fun i=>(i.zero,i.size,i.bytes))=some (some (.int .i64 0),1,8):=by kernel_rfl
theorem info_parts {P:Program}{t:TypeId}{z:Value}{s b:Nat}(h:(P.info? t).map (fun i=>(i.zero,i.size,i.bytes))=some (some z,s,b)) : ∃i,P.info? t=some i∧i.zero=some z∧i.size=s∧i.bytes=b:=by
 obtain⟨i,h1,h2⟩:=Option.map_eq_some_iff.1 h;injection h2 with h2 h3;injection h3 with h3 h4;exact⟨i,h1,h2,h3,h4⟩
end Go.Proofs.YtmiekcdkamgknaaGreatDoor
namespace Go.Proofs.YtmiekcdkamgknaaGreatDoor
open Go.RowKit Go.Shelf
attribute [local go_sem ↓] Go.wp_at_zero Go.wp_at_succ
theorem cells6 {W:World}{b:Nat}{u0 u1 u2 u3 u4 u5:Value}{t:TypeId}{f:Nat × Nat}(h:W.heap[b]? = some (.cells #[u0,u1,u2,u3,u4,u5] t f)) :
 W.cell? ⟨b,0,none⟩=some u0∧W.cell? ⟨b,1,none⟩=some u1∧W.cell? ⟨b,2,none⟩=some u2∧W.cell? ⟨b,3,none⟩=some u3∧W.cell? ⟨b,4,none⟩=some u4∧W.cell? ⟨b,5,none⟩=some u5:=by
 refine⟨?_,?_,?_,?_,?_,?_⟩<;>(rw[Lib.cell_of_heap h];rfl)
theorem grown_setT (W:World)(g o:Nat)(vs:List Value):W.grownBy (W.setCells g o vs) (some g):=by
 have hb:=below_setCells g g (Nat.le_refl g) vs o W;exact⟨hb.os,hb.tape,hb.output,hb.size,fun k _ hk=>heap_setCells g k (fun e=>hk (by rw[e])) vs o W⟩
def TabIs (X:Nat→Prop)(t:TabL)(e:Ending)(w w':World):Prop:=∃vd vf,e = .returned (.agg #[vd,vf])∧TabX t vd vf X w'∧Below w.heap.size w w'
theorem OwnT.before {tD tS tI:TypeId}{base:Nat}{t:TabL}{vd vf:Value}{rows:List RowV}{W W':World}(h:OwnT tD tS tI base t vd vf rows W){g:Nat}(hg:g<base)(ho : ∀k,k≠g→W'.heap[k]? = W.heap[k]?):OwnT tD tS tI base t vd vf rows W':=by
 (have ne : ∀ {e':TypeId} {s n:Nat} {v:Value} {xs:List Value},W.ownsRow base e' s v n xs→v.ownBlock≠some g:=fun h hv=>by have:=(h.lt g hv).1;omega);exact⟨h.fs,own_other h.ds (ne h.ds) ho,own_other h.out (ne h.out) ho,fun m hm=>own_other (h.row m hm) (ne (h.row m hm)) ho,h.apart⟩
end Go.Proofs.YtmiekcdkamgknaaGreatDoor
