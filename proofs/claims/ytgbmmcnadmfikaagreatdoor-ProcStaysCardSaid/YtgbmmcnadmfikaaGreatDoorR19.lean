import Derived.Test.YtgbmmcnadmfikaaGreatDoorR11
import Derived.Deep.RegionHeld3
import Derived.Deep.RegionLaw
import Derived.Handy
import Derived.Laws.IdiomCopy
import Derived.Lib.SliceRun
import Derived.Laws.ResultCell
import Derived.Deep.DeepCutAuto
import Derived.Deep.MidRow
import Derived.StillTailTactics
import Derived.Deep.OwnRows
import Derived.Laws.CopyRow
import Derived.Laws.BytesString
import Derived.Lib.ConvBytes
import Derived.Lib.SlBuf
import Derived.Test.YtgbmmcnadmfikaaGreatDoorR13
import Derived.Test.YtgbmmcnadmfikaaGreatDoorR14
import Derived.Test.YtgbmmcnadmfikaaGreatDoorR15
import Derived.Test.YtgbmmcnadmfikaaGreatDoorR16
import Derived.Test.YtgbmmcnadmfikaaGreatDoorR17
import Derived.Test.YtgbmmcnadmfikaaGreatDoorR18
namespace Go.Proofs.YtgbmmcnadmfikaaGreatDoor
open Go.RowKit Go.Shelf
abbrev Thing:=(Nat→Prop)→World→Prop
structure Firm (P:Thing):Prop where
 add : ∀ {X Y:Nat→Prop} {W W':World},P X W→Below W.heap.size W W'→(∀g,Y g→X g∨W.heap.size≤g)→P Y W'
 other : ∀ {X:Nat→Prop} {b:Nat} {W W':World},P X W→X b→W'.heap.size=W.heap.size→(∀g,g≠b→W'.heap[g]? = W.heap[g]?)→P X W'
section
variable {P Q:Thing} {X Y:Nat→Prop} {W W':World}
theorem Firm.keep (f:Firm P)(h:P X W)(hb:Below W.heap.size W W'):P X W':=f.add h hb fun _ hg=> .inl hg
theorem Firm.sub (f:Firm P)(h:P X W)(hs : ∀g,Y g→X g):P Y W:=f.add h (Below.refl _ _) fun g hg=> .inl (hs g hg)
theorem Firm.and (f:Firm P)(g:Firm Q):Firm (fun X W=>P X W∧Q X W):=⟨fun h hb hY=>⟨f.add h.1 hb hY,g.add h.2 hb hY⟩,fun h hX hs hg=>⟨f.other h.1 hX hs hg,g.other h.2 hX hs hg⟩⟩
theorem Firm.ex {α:Type}{P:α→Thing}(f : ∀a,Firm (P a)):Firm (fun X W=>∃a,P a X W):=⟨fun h hb hY=>h.imp fun a h=>(f a).add h hb hY,fun h hX hs hg=>h.imp fun a h=>(f a).other h hX hs hg⟩
theorem Firm.all {α:Type}{P:α→Thing}{S:α→Prop}(f : ∀a,Firm (P a)):Firm (fun X W=>∀a,S a→P a X W):=⟨fun h hb hY a ha=>(f a).add (h a ha) hb hY,fun h hX hs hg a ha=>(f a).other (h a ha) hX hs hg⟩
theorem Firm.pure (p:Prop):Firm (fun _ _=>p):=⟨fun h _ _=>h,fun h _ _ _=>h⟩
end
def RdX (size:Nat)(v:Value)(n:Nat)(xs:List Value):Thing:=fun X W=>Rd W.heap.size size v n xs W∧∀g,X g→Avoid g v
theorem RdX.firm (size:Nat)(v:Value)(n:Nat)(xs:List Value):Firm (RdX size v n xs) :=
 ⟨fun h hb hY=>⟨rd_keep h.1 hb,fun g hg=>(hY g hg).elim (h.2 g) fun h1=>rd_far h.1 h1⟩,
  fun {X b W W'} h hX hs hg=>⟨by rw[hs];exact rd_other h.1 (h.2 b hX) hg,h.2⟩⟩
theorem RdX.none0 (size:Nat)(X:Nat→Prop)(W:World):RdX size (.slice none 0 0) 0 [] X W:=⟨Rd.none0 _ _ _,fun g _ a n c e _=>by cases e⟩
theorem RdX.form {size n:Nat}{v:Value}{xs:List Value}{X:Nat→Prop}{W:World}(h:RdX size v n xs X W) : ∃ao cap,v = .slice ao n cap:=by
 obtain⟨ao,cap,e,_,_⟩:=Rd.form h.1;exact⟨ao,cap,e⟩
theorem RdX.own {base size n:Nat}{e:TypeId}{v:Value}{xs:List Value}{X:Nat→Prop}{W:World}(h:W.ownsRow base e size v n xs)(hX : ∀g,X g→g<base):RdX size v n xs X W :=
 ⟨Rd.own h (Nat.le_refl _),fun g hg=>own_far h (hX g hg)⟩
theorem RdX.ofNo {size n:Nat}{v:Value}{xs:List Value}{W:World}(h:Rd W.heap.size size v n xs W):RdX size v n xs (fun _=>False) W:=⟨h,fun _ hg=>hg.elim⟩
structure Sf (X:Nat→Prop) (w:World) (B:List Bl) (G:List Thing) (W:World):Prop where
 bel:Below w.heap.size w W
 old:Old X w
 blk : ∀x∈B,W.heap[x.1]? = some (.cells x.2.1 x.2.2 (0,0))∧w.heap.size≤x.1
 nd:(B.map (·.1)).Nodup
 gv : ∀P∈G,Firm P∧P (Xo X (B.map (·.1))) W
section
variable {X:Nat→Prop} {w W W':World} {B:List Bl} {G:List Thing}
theorem Sf.lt (h:Sf X w B G W){x:Bl}(hx:x∈B):x.1<W.heap.size:=(Array.getElem?_eq_some_iff.1 (h.blk x hx).1).1
theorem Sf.start (hX:Old X w)(hG : ∀P∈G,Firm P∧P X w):Sf X w [] G w :=
 ⟨Below.refl _ _,hX,(fun _ h=>by cases h),List.nodup_nil,fun P hP=>⟨(hG P hP).1,(hG P hP).1.sub (hG P hP).2 fun g hg=>hg.elim id (fun h=>by cases h)⟩⟩
theorem Sf.call (h:Sf X w B G W)(hb:Below W.heap.size W W'):Sf X w B G W' :=
 ⟨ret_tr h.bel hb,h.old,fun x hx=>⟨(hb.block _ (h.lt hx)).trans (h.blk x hx).1,(h.blk x hx).2⟩,h.nd,fun P hP=>⟨(h.gv P hP).1,(h.gv P hP).1.keep (h.gv P hP).2 hb⟩⟩
theorem Sf.oldX (h:Sf X w B G W):Old (Xo X (B.map (·.1))) W:=fun g hg=>by
 rcases hg with hg | hg
 · exact Nat.lt_of_lt_of_le (h.old g hg) h.bel.size
 · obtain⟨x,hx,rfl⟩:=List.mem_map.1 hg
   exact h.lt hx
theorem Sf.news (h:Sf X w B G W)(hb:Below W.heap.size W W')(C:List Bl)(hC : ∀x∈C,W'.heap[x.1]? = some (.cells x.2.1 x.2.2 (0,0))∧W.heap.size≤x.1)(hn:(C.map (·.1)).Nodup):Sf X w (B++C) G W':=by
 have hY : ∀g,Xo X ((B++C).map (·.1)) g→Xo X (B.map (·.1)) g∨W.heap.size≤g:=fun g hg=>by
  rcases hg with hg | hg
  · exact .inl (.inl hg)
  · rw[List.map_append,List.mem_append]at hg
    rcases hg with hg | hg
    · exact .inl (.inr hg)
    · obtain⟨x,hx,rfl⟩:=List.mem_map.1 hg
      exact .inr (hC x hx).2
 refine⟨ret_tr h.bel hb,h.old,fun x hx=> ?_,?_,fun P hP=>⟨(h.gv P hP).1,(h.gv P hP).1.add (h.gv P hP).2 hb hY⟩⟩
 · rcases List.mem_append.1 hx with hx | hx
   · exact⟨(hb.block _ (h.lt hx)).trans (h.blk x hx).1,(h.blk x hx).2⟩
   · exact⟨(hC x hx).1,Nat.le_trans h.bel.size (hC x hx).2⟩
 · rw[List.map_append,List.nodup_append]
   refine⟨h.nd,hn,fun a ha b hb2 e=> ?_⟩;obtain⟨x,hx,rfl⟩:=List.mem_map.1 ha;obtain⟨y,hy,rfl⟩:=List.mem_map.1 hb2;have:=h.lt hx;have:=(hC y hy).2;omega
theorem Sf.new1 (h:Sf X w B G W)(hb:Below W.heap.size W W'){cs0:Array Value}{t0:TypeId}(h0:W'.heap[W.heap.size]? = some (.cells cs0 t0 (0,0))):Sf X w (B++ [(W.heap.size,cs0,t0)]) G W' :=
 h.news hb _ (fun x hx=>by
  simp only[List.mem_cons,List.not_mem_nil,or_false]at hx;rcases hx with rfl
  · exact⟨h0,Nat.le_refl _⟩) (by simp)
theorem Sf.new2 (h:Sf X w B G W)(hb:Below W.heap.size W W'){cs0 cs1:Array Value}{t0 t1:TypeId}(h0:W'.heap[W.heap.size]? = some (.cells cs0 t0 (0,0)))(h1:W'.heap[W.heap.size+1]? = some (.cells cs1 t1 (0,0))):Sf X w (B++ [(W.heap.size,cs0,t0),(W.heap.size+1,cs1,t1)]) G W' :=
 h.news hb _ (fun x hx=>by
  simp only[List.mem_cons,List.not_mem_nil,or_false]at hx;rcases hx with rfl | rfl
  · exact⟨h0,Nat.le_refl _⟩
  · exact⟨h1,Nat.le_add_right _ _⟩) (by simp)
theorem Sf.new3 (h:Sf X w B G W)(hb:Below W.heap.size W W'){cs0 cs1 cs2:Array Value}{t0 t1 t2:TypeId}(h0:W'.heap[W.heap.size]? = some (.cells cs0 t0 (0,0)))(h1:W'.heap[W.heap.size+1]? = some (.cells cs1 t1 (0,0)))(h2:W'.heap[W.heap.size+2]? = some (.cells cs2 t2 (0,0))):Sf X w (B++ [(W.heap.size,cs0,t0),(W.heap.size+1,cs1,t1),(W.heap.size+2,cs2,t2)]) G W' :=
 h.news hb _ (fun x hx=>by
  simp only[List.mem_cons,List.not_mem_nil,or_false]at hx;rcases hx with rfl | rfl | rfl
  · exact⟨h0,Nat.le_refl _⟩
  · exact⟨h1,Nat.le_add_right _ _⟩
  · exact⟨h2,Nat.le_add_right _ _⟩) (by simp)
theorem Sf.new4 (h:Sf X w B G W)(hb:Below W.heap.size W W'){cs0 cs1 cs2 cs3:Array Value}{t0 t1 t2 t3:TypeId}(h0:W'.heap[W.heap.size]? = some (.cells cs0 t0 (0,0)))(h1:W'.heap[W.heap.size+1]? = some (.cells cs1 t1 (0,0)))(h2:W'.heap[W.heap.size+2]? = some (.cells cs2 t2 (0,0)))(h3:W'.heap[W.heap.size+3]? = some (.cells cs3 t3 (0,0))):Sf X w (B++ [(W.heap.size,cs0,t0),(W.heap.size+1,cs1,t1),(W.heap.size+2,cs2,t2),(W.heap.size+3,cs3,t3)]) G W' :=
 h.news hb _ (fun x hx=>by
  simp only[List.mem_cons,List.not_mem_nil,or_false]at hx;rcases hx with rfl | rfl | rfl | rfl
  · exact⟨h0,Nat.le_refl _⟩
  · exact⟨h1,Nat.le_add_right _ _⟩
  · exact⟨h2,Nat.le_add_right _ _⟩
  · exact⟨h3,Nat.le_add_right _ _⟩) (by simp)
theorem Sf.at (h:Sf X w B G W)(k:Nat){b:Nat}{cs:Array Value}{t:TypeId}(hk:B[k]? = some (b,cs,t)):W.heap[b]? = some (.cells cs t (0,0)):=(h.blk _ (List.mem_of_getElem? hk)).1
theorem Sf.own (h:Sf X w B G W)(k:Nat){b:Nat}{cs:Array Value}{t:TypeId}(hk:B[k]? = some (b,cs,t)):w.heap.size≤b∧b<W.heap.size:=⟨(h.blk _ (List.mem_of_getElem? hk)).2,h.lt (List.mem_of_getElem? hk)⟩
theorem Sf.set (h:Sf X w B G W)(k:Nat){b:Nat}{cs cs':Array Value}{t:TypeId}(hk:B[k]? = some (b,cs,t))(hb:Below b W W')(hg : ∀g,g≠b→W'.heap[g]? = W.heap[g]?)(hs:W'.heap.size=W.heap.size)(hn:W'.heap[b]? = some (.cells cs' t (0,0))) :
 Sf X w (B.set k (b,cs',t)) G W':=by
 have hm:=map_set_same (cs':=cs') hk;have hkl:=(List.getElem?_eq_some_iff.1 hk).1;have hXb:Xo X (B.map (·.1)) b:= .inr (List.mem_map.2 ⟨_,List.mem_of_getElem? hk,rfl⟩);have hwb:=(h.own k hk).1;refine⟨h.bel.trans (hb.mono hwb),h.old,fun x hx=> ?_,by rw[hm];exact h.nd,fun P hP=>by rw[hm];exact⟨(h.gv P hP).1,(h.gv P hP).1.other (h.gv P hP).2 hXb hs hg⟩⟩;obtain⟨j,hj⟩:=List.mem_iff_getElem?.1 hx;rw[List.getElem?_set]at hj;by_cases e:k=j
 · subst e
   rw[if_pos rfl,if_pos hkl]at hj;obtain rfl:=Option.some.inj hj;exact⟨hn,hwb⟩
 · rw[if_neg e]at hj
   have hne:x.1≠b:=fun e2=>by
    (have h1:(B.map (·.1))[k]? = some b:=by rw[List.getElem?_map,hk];rfl);(have h2:(B.map (·.1))[j]? = some b:=by rw[List.getElem?_map,hj,←e2];rfl);(have hkl':k<(B.map (·.1)).length:=by simpa using hkl);exact e ((List.getElem?_inj hkl' h.nd).1 (h1.trans h2.symm))
   exact⟨(hg _ hne).trans (h.blk x (List.mem_of_getElem? hj)).1,(h.blk x (List.mem_of_getElem? hj)).2⟩
theorem Sf.more (h:Sf X w B G W){P:Thing}(f:Firm P)(hg:P (Xo X (B.map (·.1))) W):Sf X w B (G++ [P]) W :=
 ⟨h.bel,h.old,h.blk,h.nd,fun Q hQ=>by
  rcases List.mem_append.1 hQ with hQ | hQ
  · exact h.gv Q hQ
  · rw[List.mem_singleton]at hQ;subst hQ;exact⟨f,hg⟩⟩
theorem Sf.less (h:Sf X w B G W){G':List Thing}(hG : ∀x∈G',x∈G):Sf X w B G' W:=⟨h.bel,h.old,h.blk,h.nd,fun x hx=>h.gv x (hG x hx)⟩
theorem Sf.leave (h:Sf X w B G W){B':List Bl}(hB:B'.Sublist B):Sf X w B' G W :=
 ⟨h.bel,h.old,fun x hx=>h.blk x (hB.subset hx),List.Sublist.nodup (hB.map _) h.nd,fun P hP=>⟨(h.gv P hP).1,(h.gv P hP).1.sub (h.gv P hP).2 fun _ hg=>hg.imp id fun hg=>(hB.map (·.1)).subset hg⟩⟩
theorem Sf.g (h:Sf X w B G W)(k:Nat){P:Thing}(hk:G[k]? = some P):P (Xo X (B.map (·.1))) W:=(h.gv _ (List.mem_of_getElem? hk)).2
theorem Sf.gX (h:Sf X w B G W)(k:Nat){P:Thing}(hk:G[k]? = some P):P X W:=(h.gv _ (List.mem_of_getElem? hk)).1.sub (h.gv _ (List.mem_of_getElem? hk)).2 fun _ hg=> .inl hg
theorem th0 : ∀P∈([]:List Thing),Firm P∧P X w:=fun _ h=>by cases h
theorem th1 {P:Thing}(f:Firm P)(h:P X w) : ∀Q∈ [P],Firm Q∧Q X w:=fun Q hQ=>by rw[List.mem_singleton]at hQ;subst hQ;exact⟨f,h⟩
theorem th2 {P Q:Thing}(f:Firm P)(h:P X w)(g:Firm Q)(k:Q X w) : ∀R∈ [P,Q],Firm R∧R X w:=fun R hR=>by
 simp only[List.mem_cons,List.not_mem_nil,or_false]at hR;rcases hR with rfl | rfl
 · exact⟨f,h⟩
 · exact⟨g,k⟩
end
end Go.Proofs.YtgbmmcnadmfikaaGreatDoor
namespace Go.Proofs.YtgbmmcnadmfikaaGreatDoor
open Go.RowKit Go.Shelf
abbrev dvalD (d:DescL):Value:= .agg #[.int .i64 d.ino, .int .i64 d.pos, .bool d.rd, .bool d.wr, .int .i64 d.refs, .int .i64 d.lock]
def dcells (d:DescL):List Value:= [.int .i64 d.ino, .int .i64 d.pos, .bool d.rd, .bool d.wr, .int .i64 d.refs, .int .i64 d.lock]
def cellsD (ds:List DescL):List Value:=ds.flatMap dcells
def intC (r:List Int):List Value:=r.map fun x=> .int .i64 x
theorem cellsD_cons (d:DescL)(ds:List DescL):cellsD (d::ds)=dcells d++cellsD ds:=by simp[cellsD]
theorem cellsD_len (ds:List DescL):(cellsD ds).length=ds.length*6:=by
 induction ds with
 | nil=>rfl
 | cons d ds ih =>
    rw[cellsD_cons,List.length_append,ih,List.length_cons];show 6+_=_;omega
theorem cellsD_app (a b:List DescL):cellsD (a++b)=cellsD a++cellsD b:=by simp[cellsD]
theorem cellsD_at (ds:List DescL)(k:Nat)(h:k<ds.length)(j:Nat)(hj:j<6):(cellsD ds)[k*6+j]? = (dcells ds[k])[j]?:= by
 induction ds generalizing k with
 | nil=>simp at h
 | cons d ds ih =>
    have l6:(dcells d).length=6:=rfl;rw[cellsD_cons]
    cases k with
    | zero =>
       rw[List.getElem?_append_left (by omega)];simp
    | succ k =>
       rw[List.getElem?_append_right (by omega),l6,show(k+1)*6+j-6=k*6+j by omega];exact ih k (by simpa using h)
theorem cellsD_set (ds:List DescL)(k:Nat)(h:k<ds.length)(d:DescL)(j:Nat):(cellsD (ds.set k d))[j]? = if k*6≤j∧j<k*6+6 then(dcells d)[j-k*6]? else(cellsD ds)[j]?:= by
 rcases Nat.lt_or_ge j (ds.length*6)with hj | hj
 · obtain⟨q,r,rfl,hr⟩ : ∃q r,j=q*6+r∧r<6:=⟨j / 6,j % 6,by omega,by omega⟩
   (have hq:q<ds.length:=by omega);rw[cellsD_at _ q (by simpa using hq) r hr];by_cases e:q=k
   · subst e
     rw[if_pos (by omega),show q*6+r-q*6=r by omega,List.getElem_set_self]
   · rw[if_neg (by omega),cellsD_at ds q hq r hr,List.getElem_set_ne (Ne.symm e)]
 · rw[List.getElem?_eq_none (by rw[cellsD_len,List.length_set];exact hj),if_neg (by omega),List.getElem?_eq_none (by rw[cellsD_len];exact hj)]
theorem cellsD_one (ds:List DescL) : ∀u∈cellsD ds,u.oneCell'=true:=by
 intro u hu;obtain⟨d,_,hu⟩:=List.mem_flatMap.1 hu;simp only[dcells,List.mem_cons,List.not_mem_nil,or_false]at hu;rcases hu with rfl | rfl | rfl | rfl | rfl | rfl<;>rfl
theorem dcells_one (d:DescL) : ∀u∈dcells d,u.oneCell'=true:=fun u hu=>cellsD_one [d] u (by simpa[cellsD]using hu)
theorem intC_one (r:List Int) : ∀u∈intC r,u.oneCell'=true:=by
 intro u hu;obtain⟨x,_,rfl⟩:=List.mem_map.1 hu;rfl
theorem intC_len (r:List Int):(intC r).length=r.length:=List.length_map ..
theorem intC_at (r:List Int)(k:Nat)(h:k<r.length):(intC r)[k]? = some (.int .i64 r[k]):=by unfold intC;rw[List.getElem?_map,List.getElem?_eq_getElem h];rfl
abbrev RowV:=List Int × Value
def TabX (t:TabL)(vd vf:Value):Thing:=fun X W=>∃rows:List RowV,rows.map (·.1)=t.fs∧RdX 6 vd t.ds.length (cellsD t.ds) X W∧RdX 1 vf rows.length (rows.map (·.2)) X W∧∀m,m∈rows→RdX 1 m.2 m.1.length (intC m.1) X W
theorem TabX.firm (t:TabL)(vd vf:Value):Firm (TabX t vd vf) :=
 Firm.ex fun _=>(Firm.pure _).and ((RdX.firm _ _ _ _).and ((RdX.firm _ _ _ _).and (Firm.all fun _=>RdX.firm _ _ _ _)))
abbrev tabV (ad:Option Addr)(n cap:Nat)(af:Option Addr)(m capf:Nat):Value:= .agg #[.slice ad n cap, .slice af m capf]
theorem rows_len {rows:List RowV}{fs:List (List Int)}(h:rows.map (·.1)=fs):rows.length=fs.length:=by rw[←h,List.length_map]
section
variable {t:TabL} {vd vf:Value} {X:Nat→Prop} {W:World}
theorem TabX.form (h:TabX t vd vf X W) : ∃ad cap af capf,vd = .slice ad t.ds.length cap∧vf = .slice af t.fs.length capf:=by
 obtain⟨rows,e,h1,h2,_⟩:=h;obtain⟨ad,cap,rfl⟩:=h1.form;obtain⟨af,capf,rfl⟩:=h2.form;exact⟨ad,cap,af,capf,rfl,by rw[rows_len e]⟩
theorem TabX.row {ad af:Option Addr}{cap capf:Nat}(h:TabX t (.slice ad t.ds.length cap) (.slice af t.fs.length capf) X W)(k:Nat)(hk:k<t.fs.length) :
 ∃b off ar cr,af=some ⟨b,off,none⟩∧b<W.heap.size∧W.cell? ⟨b,off+k,none⟩=some (.slice ar (t.fs[k]).length cr)∧RdX 1 (.slice ar (t.fs[k]).length cr) (t.fs[k]).length (intC t.fs[k]) X W:=by
 obtain⟨rows,e,h1,h2,h3⟩:=h;have hl:=rows_len e;(have hk':k<rows.length:=by omega);obtain⟨b,off,c,e1,_,_,hb,_,hc⟩:=h2.1.at (by omega);injection e1 with e1 e2 e3;subst e1;have h4:=h3 _ (List.getElem_mem hk')
 have e5:rows[k].1=t.fs[k]:=by
  (have:(rows.map (·.1))[k]? = t.fs[k]?:= by rw[e]);rw[List.getElem?_map,List.getElem?_eq_getElem hk',List.getElem?_eq_getElem hk]at this;simpa using this
 rw[e5]at h4;obtain⟨ar,cr,e6⟩:=h4.form;rw[e6]at h4;refine⟨b,off,ar,cr,rfl,hb,?_,h4⟩;refine hc k _ ?_;rw[List.getElem?_map,List.getElem?_eq_getElem hk',←e6];rfl
theorem RdX.int {r:List Int}{ar:Option Addr}{cr:Nat}(h:RdX 1 (.slice ar r.length cr) r.length (intC r) X W)(k:Nat)(hk:k<r.length) : ∃b off,ar=some ⟨b,off,none⟩∧W.cell? ⟨b,off+k,none⟩=some (.int .i64 r[k]):=by
 obtain⟨b,off,c,e1,_,_,hb,_,hc⟩:=h.1.at (by omega);injection e1 with e1 e2 e3;subst e1;exact⟨b,off,rfl,hc k _ (intC_at r k hk)⟩
theorem TabX.desc {ad af:Option Addr}{cap capf:Nat}(h:TabX t (.slice ad t.ds.length cap) (.slice af t.fs.length capf) X W)(k:Nat)(hk:k<t.ds.length) :
 ∃b off,ad=some ⟨b,off,none⟩∧W.cell? ⟨b,off+k*6,none⟩=some (.int .i64 (t.ds[k]).ino)∧W.cell? ⟨b,off+k*6+1,none⟩=some (.int .i64 (t.ds[k]).pos)∧W.cell? ⟨b,off+k*6+2,none⟩=some (.bool (t.ds[k]).rd)
  ∧ W.cell? ⟨b,off+k*6+3,none⟩=some (.bool (t.ds[k]).wr)∧W.cell? ⟨b,off+k*6+4,none⟩=some (.int .i64 (t.ds[k]).refs)∧W.cell? ⟨b,off+k*6+5,none⟩=some (.int .i64 (t.ds[k]).lock):=by
 obtain⟨rows,e,h1,h2,h3⟩:=h;obtain⟨b,off,c,e1,_,_,hb,_,hc⟩:=h1.1.at (by omega);injection e1 with e1 e2 e3;subst e1;(have g:=fun(j:Nat) (hj:j<6) (u:Value) (hu:(dcells t.ds[k])[j]? = some u)=>(show W.cell? ⟨b,off+k*6+j,none⟩=some u by rw[Nat.add_assoc];exact hc _ u ((cellsD_at _ k hk j hj).trans hu)));exact⟨b,off,rfl,g 0 (by omega) _ rfl,g 1 (by omega) _ rfl,g 2 (by omega) _ rfl,g 3 (by omega) _ rfl,g 4 (by omega) _ rfl,g 5 (by omega) _ rfl⟩
end
structure OwnT (tD tS tI:TypeId) (base:Nat) (t:TabL) (vd vf:Value) (rows:List RowV) (W:World):Prop where
 fs:rows.map (·.1)=t.fs
 ds:W.ownsRow base tD 6 vd t.ds.length (cellsD t.ds)
 out:W.ownsRow base tS 1 vf rows.length (rows.map (·.2))
 row : ∀m∈rows,W.ownsRow base tI 1 m.2 m.1.length (intC m.1)
 apart : ∀(i j:Nat) (a b:RowV),rows[i]? = some a→rows[j]? = some b→i≠j→∀g,a.2.ownBlock=some g→b.2.ownBlock≠some g
section
variable {tD tS tI:TypeId} {base:Nat} {t:TabL} {vd vf:Value} {rows:List RowV} {X:Nat→Prop} {W W':World}
theorem OwnT.tab (h:OwnT tD tS tI base t vd vf rows W)(hX : ∀g,X g→g<base):TabX t vd vf X W :=
 ⟨rows,h.fs,RdX.own h.ds hX,RdX.own h.out hX,fun m hm=>RdX.own (h.row m hm) hX⟩
theorem OwnT.below (h:OwnT tD tS tI base t vd vf rows W)(hb:Below W.heap.size W W'):OwnT tD tS tI base t vd vf rows W' :=
 ⟨h.fs,ownsRow_below h.ds hb (Nat.le_refl _),ownsRow_below h.out hb (Nat.le_refl _),fun m hm=>ownsRow_below (h.row m hm) hb (Nat.le_refl _),h.apart⟩
theorem own_type {b:Nat}{e:TypeId}{s n:Nat}{v:Value}{xs:List Value}(h:W.ownsRow b e s v n xs){g:Nat}(hg:v.ownBlock=some g) : ∃cs,W.heap[g]? = some (.cells cs e (0,0)):=by
 rcases h.2 with⟨rfl,_⟩ | ⟨g',cap,cur,rfl,_,h2,_⟩
 · cases hg
 · have:g'=g:=by injection hg
   subst this;exact⟨cur,h2⟩
theorem own_other {b:Nat}{e:TypeId}{s n:Nat}{v:Value}{xs:List Value}(h:W.ownsRow b e s v n xs){g:Nat}(hg:v.ownBlock≠some g)(ho : ∀k,k≠g→W'.heap[k]? = W.heap[k]?):W'.ownsRow b e s v n xs:=by
 refine⟨h.1,h.2.imp id ?_⟩;rintro⟨g',cap,cur,rfl,h1,h2,h3⟩;exact⟨g',cap,cur,rfl,h1,(ho g' (fun e=>hg (by rw[e];rfl))).trans h2,h3⟩
theorem OwnT.other (h:OwnT tD tS tI base t vd vf rows W){g:Nat}{cs:Array Value}{e:TypeId}(hg:W.heap[g]? = some (.cells cs e (0,0)))(hD:e≠tD)(hS:e≠tS)(hI:e≠tI)(ho : ∀k,k≠g→W'.heap[k]? = W.heap[k]?):OwnT tD tS tI base t vd vf rows W':=by
 have ne : ∀ {b:Nat} {e':TypeId} {s n:Nat} {v:Value} {xs:List Value},W.ownsRow b e' s v n xs→e≠e'→v.ownBlock≠some g:=fun h he hv=>by
  obtain⟨cs',h2⟩:=own_type h hv;rw[hg]at h2;injection h2 with h2;injection h2 with _ h2;exact he h2
 exact⟨h.fs,own_other h.ds (ne h.ds hD) ho,own_other h.out (ne h.out hS) ho,fun m hm=>own_other (h.row m hm) (ne (h.row m hm) hI) ho,h.apart⟩
theorem take_seg {α:Type}(L vs:List α)(o m:Nat)(h:m≤L.length)(ho:o+vs.length≤m):(L.take o++(vs++L.drop (o+vs.length))).take m=(L.take m).take o++(vs++(L.take m).drop (o+vs.length)):=by
 (have l1:(L.take o).length=o:=by rw[List.length_take];omega);(have l2:((L.take m).take o).length=o:=by rw[List.length_take,List.length_take];omega);apply List.ext_getElem?;intro j;rw[List.getElem?_take];by_cases hj:j<m
 · rw[if_pos hj]
   by_cases h9:j<o
   · rw[List.getElem?_append_left (by omega),List.getElem?_append_left (by omega),List.getElem?_take,List.getElem?_take,List.getElem?_take,if_pos hj]
   · have e1:(L.take o++(vs++L.drop (o+vs.length)))[j]? = (vs++L.drop (o+vs.length))[j-o]?:= by rw[List.getElem?_append_right (by omega),l1]
     (have e2:((L.take m).take o++(vs++(L.take m).drop (o+vs.length)))[j]? = (vs++(L.take m).drop (o+vs.length))[j-o]?:= by rw[List.getElem?_append_right (by omega),l2]);rw[e1,e2];by_cases h10:j-o<vs.length
     · rw[List.getElem?_append_left h10,List.getElem?_append_left h10]
     · have e3:(vs++L.drop (o+vs.length))[j-o]? = L[j]?:= by rw[List.getElem?_append_right (by omega),List.getElem?_drop];congr 1;omega
       (have e4:(vs++(L.take m).drop (o+vs.length))[j-o]? = L[j]?:= by rw[List.getElem?_append_right (by omega),List.getElem?_drop,show o+vs.length+(j-o-vs.length)=j by omega,List.getElem?_take,if_pos hj]);rw[e3,e4]
 · rw[if_neg hj]
   symm;rw[List.getElem?_eq_none];rw[List.length_append,List.length_append,l2,List.length_drop,List.length_take];omega
theorem own_seg {b:Nat}{e:TypeId}{s n:Nat}{g cap:Nat}{xs ys:List Value}(h:W.ownsRow b e s (.slice (some ⟨g,0,none⟩) n cap) n xs){o:Nat}{vs:List Value}(ho:o+vs.length≤n*s)
 (hy:ys=xs.take o++(vs++xs.drop (o+vs.length))) (hg:W'.heap[g]? = (W.setCells g o vs).heap[g]?):W'.ownsRow b e s (.slice (some ⟨g,0,none⟩) n cap) n ys:=by
  rcases h.2 with⟨e1,_⟩ | ⟨g',cap',cur,e1,h1,h2,h3,h4,h5,h6⟩
  · cases e1
  injection e1 with e1 e2 e3;injection e1 with e1;injection e1 with e1 _ _;subst e1;subst e3;have hl:=h.1;obtain⟨cs',h7,h8⟩:=heap_setCells_same vs o W cur h2
  have hcs:cs'.toList=cur.toList.take o++(vs++cur.toList.drop (o+vs.length)):=by
   have hr:=World.rangeAt_setCells_same W g o vs (by
    intro j hj;refine⟨?_,Lib.frozen_of_heap h2 _⟩;rw[Lib.cell_of_heap h2,Array.getElem?_eq_getElem (by have:n*s≤cap*s:=Nat.mul_le_mul_right _ h3;omega)]
    rfl)
   have hoth : ∀j,(j<o∨o+vs.length≤j)→cs'[j]? = cur[j]?:= fun j hj=>by
    have:=World.cell?_setCells_out g vs o W ⟨g,j,none⟩ (fun _ _=>hj);rw[Lib.cell_of_heap h7,Lib.cell_of_heap h2]at this;exact this
   apply List.ext_getElem?;intro j;rw[Array.getElem?_toList];have hsz:n*s≤cap*s:=Nat.mul_le_mul_right _ h3;by_cases hj:j<o
   · rw[hoth j (.inl hj),List.getElem?_append_left (by rw[List.length_take,Array.length_toList];omega),List.getElem?_take,if_pos hj,Array.getElem?_toList]
   · have hlt:(cur.toList.take o).length=o:=by rw[List.length_take,Array.length_toList];omega
     rw[List.getElem?_append_right (by omega),hlt];by_cases hj2:j<o+vs.length
     · rw[List.getElem?_append_left (by omega)]
       have hr2:=hr (j-o) _ (List.getElem?_eq_getElem (show j-o<vs.length by omega));rw[Lib.cell_of_heap h7,show o+(j-o)=j by omega]at hr2;rw[hr2,List.getElem?_eq_getElem (by omega)]
     · rw[hoth j (.inr (by omega)),List.getElem?_append_right (by omega),List.getElem?_drop,Array.getElem?_toList]
       congr 1;omega
  refine⟨?_, .inr ⟨g,cap,cs',rfl,h1,hg.trans h7,h3,h4,by rw[h8];exact h5,?_⟩⟩
  · rw[hy,List.length_append,List.length_append,List.length_take,List.length_drop]
    omega
  · rw[hcs,hy,←h6]
    exact take_seg _ _ _ _ (by have:n*s≤cap*s:=Nat.mul_le_mul_right _ h3;rw[Array.length_toList];omega) ho
theorem own_at {b:Nat}{e:TypeId}{s n:Nat}{v:Value}{xs:List Value}(h:W.ownsRow b e s v n xs)(hn:0<n) : ∃g cap,v = .slice (some ⟨g,0,none⟩) n cap∧g<W.heap.size∧(∀j u,xs[j]? = some u→W.cell? ⟨g,j,none⟩=some u)∧(∀j,W.frozen? ⟨g,j,none⟩=false):=by
 rcases h.2 with⟨_,h0⟩ | ⟨g,cap,cur,rfl,h1,h2,h3,h4,h5,h6⟩
 · omega
 refine⟨g,cap,rfl,(Array.getElem?_eq_some_iff.1 h2).1,fun j u hu=> ?_,fun j=>Lib.frozen_of_heap h2 j⟩;rw[Lib.cell_of_heap h2];rw[←h6,List.getElem?_take]at hu;split at hu
 · rw[←Array.getElem?_toList];exact hu
 · cases hu
theorem OwnT.descO (h:OwnT tD tS tI base t vd vf rows W)(k:Nat)(hk:k<t.ds.length) :
 ∃g cap,vd = .slice (some ⟨g,0,none⟩) t.ds.length cap∧(∀j,W.frozen? ⟨g,j,none⟩=false)∧W.there g (k*6) 6∧W.cell? ⟨g,k*6,none⟩=some (.int .i64 (t.ds[k]).ino)∧W.cell? ⟨g,k*6+1,none⟩=some (.int .i64 (t.ds[k]).pos)∧W.cell? ⟨g,k*6+2,none⟩=some (.bool (t.ds[k]).rd)
  ∧ W.cell? ⟨g,k*6+3,none⟩=some (.bool (t.ds[k]).wr)∧W.cell? ⟨g,k*6+4,none⟩=some (.int .i64 (t.ds[k]).refs)∧W.cell? ⟨g,k*6+5,none⟩=some (.int .i64 (t.ds[k]).lock):=by
 obtain⟨g,cap,e,_,hc,hf⟩:=own_at h.ds (by omega);(have q:=fun(j:Nat) (hj:j<6) (u:Value) (hu:(dcells t.ds[k])[j]? = some u)=>(show W.cell? ⟨g,k*6+j,none⟩=some u from hc _ u ((cellsD_at _ k hk j hj).trans hu)));refine⟨g,cap,e,hf,fun j hj=>⟨?_,hf _⟩,q 0 (by omega) _ rfl,q 1 (by omega) _ rfl,q 2 (by omega) _ rfl,q 3 (by omega) _ rfl,q 4 (by omega) _ rfl,q 5 (by omega) _ rfl⟩;have h6:j<(dcells t.ds[k]).length:=hj;rw[q j hj _ (List.getElem?_eq_getElem h6)];rfl
theorem OwnT.rowO (h:OwnT tD tS tI base t vd vf rows W)(p:Nat)(hp:p<t.fs.length)(k:Nat)(hk:k<(t.fs[p]).length) :
 ∃gf capf g cr,vf = .slice (some ⟨gf,0,none⟩) t.fs.length capf∧rows[p]? = some (t.fs[p], .slice (some ⟨g,0,none⟩) (t.fs[p]).length cr)∧W.cell? ⟨gf,p,none⟩=some (.slice (some ⟨g,0,none⟩) (t.fs[p]).length cr)
  ∧ (∀j,W.frozen? ⟨g,j,none⟩=false)∧W.cell? ⟨g,k,none⟩=some (.int .i64 (t.fs[p])[k]):=by
 have hl:=rows_len h.fs;(have hp':p<rows.length:=by omega);obtain⟨gf,capf,e,_,hc,_⟩:=own_at h.out (by omega)
 have e5:rows[p].1=t.fs[p]:=by
  (have:(rows.map (·.1))[p]? = t.fs[p]?:= by rw[h.fs]);rw[List.getElem?_map,List.getElem?_eq_getElem hp',List.getElem?_eq_getElem hp]at this;simpa using this
 have h1:=h.row _ (List.getElem_mem hp');rw[e5]at h1;obtain⟨g,cr,e6,_,hc2,hf⟩:=own_at h1 (by omega);refine⟨gf,capf,g,cr,by rw[←hl];exact e,?_,?_,hf,hc2 k _ (intC_at _ k hk)⟩
 · rw[List.getElem?_eq_getElem hp'];exact congrArg some (Prod.ext e5 e6)
 · refine hc p _ ?_
   rw[List.getElem?_map,List.getElem?_eq_getElem hp',←e6];rfl
theorem cells_set_all (ds:List DescL)(i:Nat)(hi:i<ds.length)(d:DescL):cellsD (ds.set i d)=(cellsD ds).take (i*6)++(dcells d++(cellsD ds).drop (i*6+(dcells d).length)):=by
 have l6:(dcells d).length=6:=rfl;have hl:=cellsD_len ds;(have l1:((cellsD ds).take (i*6)).length=i*6:=by rw[List.length_take];omega);apply List.ext_getElem?;intro j;rw[cellsD_set _ _ hi,List.getElem?_append,l1,List.getElem?_append,l6];by_cases h1:j<i*6
 · rw[if_pos h1,if_neg (by omega),List.getElem?_take,if_pos h1]
 · rw[if_neg h1]
   by_cases h2:j<i*6+6
   · rw[if_pos (by omega),if_pos (by omega)]
   · rw[if_neg (by omega),if_neg (by omega),List.getElem?_drop]
     congr 1;omega
theorem OwnT.segD (h:OwnT tD tS tI base t vd vf rows W){g cap:Nat}(e:vd = .slice (some ⟨g,0,none⟩) t.ds.length cap){ds':List DescL}{o:Nat}{vs:List Value}(hds:cellsD ds'=(cellsD t.ds).take o++(vs++(cellsD t.ds).drop (o+vs.length)))(hl:ds'.length=t.ds.length)
 (ho:o+vs.length≤t.ds.length*6) (hS:tS≠tD) (hI:tI≠tD) (hg:W'.heap[g]? = (W.setCells g o vs).heap[g]?) (hoth : ∀k,k≠g→W'.heap[k]? = W.heap[k]?):OwnT tD tS tI base ⟨ds',t.fs⟩ vd vf rows W':=by
  subst e;have hD:=h.ds;(have ne : ∀ {b:Nat} {e':TypeId} {s n:Nat} {v:Value} {xs:List Value},W.ownsRow b e' s v n xs→e'≠tD→v.ownBlock≠some g:=fun h' he hv=>own_ne hD h' (Ne.symm he) g rfl hv);refine⟨h.fs,?_,own_other h.out (ne h.out hS) hoth,fun m hm=>own_other (h.row m hm) (ne (h.row m hm) hI) hoth,h.apart⟩;have:=own_seg hD ho hds hg;rw[←hl]at this;rw[←hl];exact this
theorem OwnT.segF (h:OwnT tD tS tI base t vd vf rows W){p k g cr:Nat}(hp:p<t.fs.length)(hk:k<(t.fs[p]).length)(hr:rows[p]? = some (t.fs[p], .slice (some ⟨g,0,none⟩) (t.fs[p]).length cr))(v:Int)(hD:tD≠tI)(hS:tS≠tI)
 (hg:W'.heap[g]? = (W.setCells g k [.int .i64 v]).heap[g]?) (hoth : ∀k,k≠g→W'.heap[k]? = W.heap[k]?):OwnT tD tS tI base ⟨t.ds,putF t.fs p k v⟩ vd vf (rows.set p ((t.fs[p]).set k v, .slice (some ⟨g,0,none⟩) (t.fs[p]).length cr)) W':=by
  have hl:=rows_len h.fs;(have hp':p<rows.length:=by omega);have hR:=h.row _ (List.mem_of_getElem? hr);have ne : ∀ {b:Nat} {e':TypeId} {s n:Nat} {v:Value} {xs:List Value},W.ownsRow b e' s v n xs→e'≠tI→v.ownBlock≠some g:=fun h' he hv=>own_ne hR h' (Ne.symm he) g rfl hv
  have hsnd:(rows.set p ((t.fs[p]).set k v, .slice (some ⟨g,0,none⟩) (t.fs[p]).length cr)).map (·.2)=rows.map (·.2):=by
   apply List.ext_getElem?;intro j;rw[List.getElem?_map,List.getElem?_map,List.getElem?_set];split
   · rename_i e;subst e;rw[hr];rfl
   · rfl
  refine⟨?_,own_other h.ds (ne h.ds hD) hoth,?_,fun m hm=> ?_,fun i j a b ha hb hne q hq=> ?_⟩
  · show _=putF t.fs p k v
    unfold putF;rw[getD_at hp,List.map_set,h.fs]
  · rw[hsnd,List.length_set]
    exact own_other h.out (ne h.out hS) hoth
  · obtain⟨j,hj⟩:=List.mem_iff_getElem?.1 hm
    rw[List.getElem?_set]at hj;split at hj
    · rename_i e
      subst e;injection hj with hj;subst hj;show W'.ownsRow base tI 1 _ ((t.fs[p]).set k v).length _;rw[List.length_set];refine own_seg hR (o:=k) (vs:= [.int .i64 v]) (by rw[List.length_singleton];omega) ?_ hg;unfold intC;rw[List.map_set];show((t.fs[p]).map fun x=>Value.int .i64 x).set k _=_;rw[List.set_eq_take_append_cons_drop,if_pos (by rw[List.length_map];exact hk)];rfl
    · rename_i e
      refine own_other (h.row m (List.mem_of_getElem? hj)) (fun hq=>h.apart p j _ m hr hj e g rfl hq) hoth
  · have same : ∀(i:Nat) (a:RowV),(rows.set p ((t.fs[p]).set k v, .slice (some ⟨g,0,none⟩) (t.fs[p]).length cr))[i]? = some a→∃a',rows[i]? = some a'∧a'.2=a.2:=fun i a ha=>by
     rw[List.getElem?_set]at ha;split at ha
     · rename_i e
       subst e;injection ha with ha;subst ha;exact⟨_,hr,rfl⟩
     · exact⟨a,ha,rfl⟩
    obtain⟨a',ha',ea⟩:=same i a ha;obtain⟨b',hb',eb⟩:=same j b hb;rw[←ea]at hq;rw[←eb];exact h.apart i j a' b' ha' hb' hne q hq
end
end Go.Proofs.YtgbmmcnadmfikaaGreatDoor
