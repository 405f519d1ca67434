import Derived.Test.YtinoogmaikhpjaaGreatDoorR22
namespace Go.Proofs.YtinoogmaikhpjaaGreatDoor
open Go.RowKit Go.Shelf
attribute [local go_sem ↓] Go.wp_at_zero Go.wp_at_succ
theorem gr_below {w W W':World}{row:Option Nat}(hb:Below w.heap.size w W)(hg:W.grownBy W' row)(hrow : ∀g,row=some g→w.heap.size≤g):Below w.heap.size w W' :=
 hb.grown hg hb.size hrow
theorem Sf.grown {X:Nat→Prop}{w W W':World}{B:List Bl}{G:List Thing}{row:Option Nat}(h:Sf X w B G W)(h0 : ∀P∈G,P X w)(hg:W.grownBy W' row)(hrow : ∀g,row=some g→w.heap.size≤g∧∀x∈B,x.1≠g):Sf X w B G W':=by
 (have hb:=gr_below h.bel hg fun g e=>(hrow g e).1);refine⟨hb,h.old,fun x hx=>⟨(hg.block x.1 (h.lt hx) fun e=>(hrow x.1 e.symm).2 x hx rfl).trans (h.blk x hx).1,(h.blk x hx).2⟩,h.nd,fun P hP=>⟨(h.gv P hP).1,(h.gv P hP).1.add (h0 P hP) hb fun g hg=> ?_⟩⟩;rcases hg with hg | hg
 · exact .inl hg
 · obtain⟨x,hx,rfl⟩:=List.mem_map.1 hg
   exact .inr (h.blk x hx).2
theorem Sf.apart {X:Nat→Prop}{w W:World}{B:List Bl}{G:List Thing}(h:Sf X w B G W){b:Nat}{e:TypeId}{s n:Nat}{v:Value}{xs:List Value}(ho:W.ownsRow b e s v n xs)(hne:(B.map (·.2.2)).contains e=false) : ∀g,v.ownBlock=some g→∀x∈B,x.1≠g:=by
 intro g hg x hx e1;obtain⟨cs,h1⟩:=own_type ho hg;rw[←e1,(h.blk x hx).1]at h1;injection h1 with h1;injection h1 with _ h1;have h2:(B.map (·.2.2)).contains e=true:=List.contains_iff_mem.2 (h1▸List.mem_map.2 ⟨x,hx,rfl⟩);rw[hne]at h2
 cases h2
theorem OwnT.nil (tD tS tI:TypeId){base:Nat}{ds:List DescL}{vd:Value}{W:World}(h:W.ownsRow base tD 6 vd ds.length (cellsD ds)):OwnT tD tS tI base ⟨ds,[]⟩ vd (.slice none 0 0) [] W :=
 ⟨rfl,h,World.ownsRow_nil _ _ _ _,(fun m hm=>by cases hm),fun i j a b ha _ _=>by cases ha⟩
theorem own_emptyT {W:World}{g s:Nat}{e:TypeId}(h:W.heap[g]? = some (.cells #[] e (0,0))):W.ownsRow g e s (.slice (some ⟨g,0,none⟩) 0 0) 0 []:=⟨by simp, .inr ⟨g,0,#[],rfl,Nat.le_refl _,h,Nat.le_refl _,Nat.zero_le _,by simp,by simp⟩⟩
theorem OwnT.push {tD tS tI:TypeId}{base:Nat}{ds:List DescL}{fs:List (List Int)}{vd vf:Value}{rows:List RowV}{W0 W1 W2:World}(h:OwnT tD tS tI base ⟨ds,fs⟩ vd vf rows W0)(hb:Below W0.heap.size W0 W1){r:List Int}{v vf':Value}
 (hv:W1.ownsRow base tI 1 v r.length (intC r)) (hn : ∀g,v.ownBlock=some g→W0.heap.size≤g) (hf:W2.ownsRow base tS 1 vf' (rows.length+1) (rows.map (·.2)++ [v])) (hg:W1.grownBy W2 vf.ownBlock) (hD:tS≠tD) (hI:tS≠tI):OwnT tD tS tI base ⟨ds,fs++ [r]⟩ vd vf' (rows++ [(r,v)]) W2:=by
  have h1:=h.below hb
  have keep : ∀ {e:TypeId} {s n:Nat} {u:Value} {xs:List Value},W1.ownsRow base e s u n xs→tS≠e→W2.ownsRow base e s u n xs:=fun h' he=>by
   refine⟨h'.1,h'.2.imp id ?_⟩;rintro⟨g',cap,cur,rfl,k1,k2,k3⟩;refine⟨g',cap,cur,rfl,k1,(hg.block g' (Array.getElem?_eq_some_iff.1 k2).1 fun e=> ?_).trans k2,k3⟩;exact own_ne h1.out h' he g' e.symm rfl
  refine⟨by rw[List.map_append,h.fs];rfl,keep h1.ds hD,by rw[List.length_append,List.map_append];exact hf,fun m hm=> ?_,?_⟩
  · rcases List.mem_append.1 hm with hm | hm
    · exact keep (h1.row m hm) hI
    · rw[List.mem_singleton]at hm;subst hm;exact keep hv hI
  · have hlt : ∀(i:Nat) (a:RowV),rows[i]? = some a→∀g,a.2.ownBlock=some g→g<W0.heap.size:=fun i a ha g hg=>by
     obtain⟨cs,hc⟩:=own_type (h.row a (List.mem_of_getElem? ha)) hg;exact(Array.getElem?_eq_some_iff.1 hc).1
    have at' : ∀(i:Nat) (a:RowV),(rows++ [(r,v)])[i]? = some a→(i<rows.length∧rows[i]? = some a)∨(i=rows.length∧a=(r,v)):=fun i a ha=>by
     rw[List.getElem?_append]at ha;split at ha
     · rename_i hi;exact .inl ⟨hi,ha⟩
     · rename_i hi
       have:i-rows.length=0:=by
        rcases Nat.eq_zero_or_pos (i-rows.length)with h0 | h0
        · exact h0
        · rw[List.getElem?_eq_none (by rw[List.length_singleton];omega)]at ha;cases ha
       rw[this]at ha;injection ha with ha;exact .inr ⟨by omega,ha.symm⟩
    intro i j a b ha hb' hne g hga hgb;rcases at' i a ha with⟨hi,ha⟩ | ⟨hi,rfl⟩
    · rcases at' j b hb' with⟨hj,hb'⟩ | ⟨hj,rfl⟩
      · exact h.apart i j a b ha hb' hne g hga hgb
      · have:=hlt i a ha g hga;have:=hn g hgb;omega
    · rcases at' j b hb' with⟨hj,hb'⟩ | ⟨hj,rfl⟩
      · have:=hlt j b hb' g hgb;have:=hn g hga;omega
      · omega
theorem infoDescR:(Tryz.prog.info? 74).map (fun i=>(i.zero,i.size,i.bytes))=some (some (.agg #[.int .i64 0, .int .i64 0, .bool false, .bool false, .int .i64 0, .int .i64 0]),6,40):=by kernel_rfl
theorem infoInt:(Tryz.prog.info? 3).map (fun i=>(i.zero,i.size,i.bytes))=some (some (.int .i64 0),1,8):=by kernel_rfl
theorem info_parts {P:Program}{t:TypeId}{z:Value}{s b:Nat}(h:(P.info? t).map (fun i=>(i.zero,i.size,i.bytes))=some (some z,s,b)) : ∃i,P.info? t=some i∧i.zero=some z∧i.size=s∧i.bytes=b:=by
 obtain⟨i,h1,h2⟩:=Option.map_eq_some_iff.1 h;injection h2 with h2 h3;injection h3 with h3 h4;exact⟨i,h1,h2,h3,h4⟩
end Go.Proofs.YtinoogmaikhpjaaGreatDoor
namespace Go.Proofs.YtinoogmaikhpjaaGreatDoor
open Go.RowKit Go.Shelf
attribute [local go_sem ↓] Go.wp_at_zero Go.wp_at_succ
theorem cells6 {W:World}{b:Nat}{u0 u1 u2 u3 u4 u5:Value}{t:TypeId}{f:Nat × Nat}(h:W.heap[b]? = some (.cells #[u0,u1,u2,u3,u4,u5] t f)) :
 W.cell? ⟨b,0,none⟩=some u0∧W.cell? ⟨b,1,none⟩=some u1∧W.cell? ⟨b,2,none⟩=some u2∧W.cell? ⟨b,3,none⟩=some u3∧W.cell? ⟨b,4,none⟩=some u4∧W.cell? ⟨b,5,none⟩=some u5:=by
 refine⟨?_,?_,?_,?_,?_,?_⟩<;>(rw[Lib.cell_of_heap h];rfl)
theorem grown_setT (W:World)(g o:Nat)(vs:List Value):W.grownBy (W.setCells g o vs) (some g):=by
 have hb:=below_setCells g g (Nat.le_refl g) vs o W;exact⟨hb.os,hb.tape,hb.output,hb.size,fun k _ hk=>heap_setCells g k (fun e=>hk (by rw[e])) vs o W⟩
def TabIs (X:Nat→Prop)(t:TabL)(e:Ending)(w w':World):Prop:=∃vd vf,e = .returned (.agg #[vd,vf])∧TabX t vd vf X w'∧Below w.heap.size w w'
theorem OwnT.before {tD tS tI:TypeId}{base:Nat}{t:TabL}{vd vf:Value}{rows:List RowV}{W W':World}(h:OwnT tD tS tI base t vd vf rows W){g:Nat}(hg:g<base)(ho : ∀k,k≠g→W'.heap[k]? = W.heap[k]?):OwnT tD tS tI base t vd vf rows W':=by
 (have ne : ∀ {e':TypeId} {s n:Nat} {v:Value} {xs:List Value},W.ownsRow base e' s v n xs→v.ownBlock≠some g:=fun h hv=>by have:=(h.lt g hv).1;omega);exact⟨h.fs,own_other h.ds (ne h.ds) ho,own_other h.out (ne h.out) ho,fun m hm=>own_other (h.row m hm) (ne (h.row m hm)) ho,h.apart⟩
end Go.Proofs.YtinoogmaikhpjaaGreatDoor
namespace Go.Proofs.YtinoogmaikhpjaaGreatDoor
open Go.RowKit Go.Shelf
attribute [local go_sem ↓] Go.wp_at_zero Go.wp_at_succ
theorem eqDescR (x y:DescL)(w:World):(Op.equalIn 10000 74 (dvalD x) (dvalD y)).run Tryz.prog w = .ok (decide (x=y)) w:=by
 have u3:=Tryz.underlying3;have u4:=Tryz.underlying4;have a3:=Tryz.isAgg3;have a4:=Tryz.isAgg4;(have hS:Tryz.prog.underlying 74=some (.struct (Tryz.prog.fieldsOf 74)):=by kernel_rfl);rw[show(10000:Nat)=9998+1+1 from rfl,run_equalIn_agg w (9998+1) 74 _ _ hS (by kernel_rfl)];simp only[Program.fieldsOf,Tryz.underlying74];go_simp;obtain⟨x1,x2,x3,x4,x5,x6⟩:=x;obtain⟨y1,y2,y3,y4,y5,y6⟩:=y;by_cases h1:x1=y1<;>by_cases h2:x2=y2<;>by_cases h3:x3=y3<;>by_cases h4:x4=y4<;>by_cases h5:x5=y5<;>by_cases h6:x6=y6<;>simp[h1,h2,h3,h4,h5,h6]
theorem eqDescRG:Tryz.prog.eqGuardType Tryz.prog.depth 74=false:=by kernel_rfl
end Go.Proofs.YtinoogmaikhpjaaGreatDoor
