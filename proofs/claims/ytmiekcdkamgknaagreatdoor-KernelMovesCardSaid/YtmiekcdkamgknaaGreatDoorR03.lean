import Derived.Test.YtmiekcdkamgknaaGreatDoorR02
import Derived.Laws.MakeOwn
set_option linter.unusedSectionVars false
namespace Go.Eng
open Go
section
variable [Base] {P:Program} {ρ:Ren}
theorem fastInt_ok {E E':Operand→Value}{o:Oper}{v:Value}(h:fastInt P E o.op=some v)(hE : ∀x∈o.op.operands,VR ρ (E x) (E' x))(w:World) :
 (execOp E' o).run P w = .ok (.value v) w:=by
  obtain⟨dst,op,ty,pos,after,guard⟩:=o
  unfold fastInt at h
  cases op with
  | binOp op t x y u =>
     have hx:=hE x (by simp[Op.operands]);have hy:=hE y (by simp[Op.operands])
     simp only at h
     split at h
     · rename_i k a k' b hvx hvy
       rw[hvx]at hx;rw[hvy]at hy
       split at h
       · rename_i hk
         subst hk
         have e1:=hx.int_inv;have e2:=hy.int_inv
         have run : ∀m:Sem Value,binOp op t (.int k a) (.int k b)=m→quiet P (do eqGuard op t x y (.int k a) (.int k b);m)=some v→(execOp E' ⟨dst, .binOp op t x y u,ty,pos,after,guard⟩).run P w = .ok (.value v) w:=by
          intro m hm hq
          have hr:=quiet_run hq w
          simp only[Sem.run_bind]at hr
          simp only[execOp,e1,e2,hm,Sem.run_bind,hr,Result.andThen_ok,Sem.run_pure]
         cases op<;>first | (cases h;done) | (refine run _ ?_ h;simp[binOp])
       · cases h
     · cases h
  | _=>simp at h
theorem evP_ok {nb:Nat}(hg:Fixes ρ nb){E E':Operand→Value}{o:Oper}{v:Value}(h:evP P nb E o=some v)(hE : ∀x∈o.op.operands,VR ρ (E x) (E' x)) :
 ∃v',VR ρ v v'∧∀w,(execOp E' o).run P w = .ok (.value v') w:=by
 unfold evP at h
 split at h
 · rename_i v0 hv0
   split at h
   · rename_i hf
     simp only[Option.some.injEq]at h;subst h
     exact⟨_,VR.of_fixd hg 8 _ hf,fastInt_ok hv0 hE⟩
   · cases h
 split at h
 · rename_i v0 hv0
   simp only[Option.some.injEq]at h;subst h
   exact structV_ok hv0 hE
 · split at h
   · rename_i hc
     rw[Bool.and_eq_true]at hc
     obtain⟨hf,hs⟩:=hc
     have hcg:execOp E' o=execOp E o:=execOp_congr o (fun cs b he=>by rw[he]at hs;simp[noSel]at hs) fun x hx=>by
      have:=hE x hx
      refine VR.eq_of_fixd hg 8 _ _ ?_ this
      have h0:o.op.operands.toList.all (fun x=>fixd nb 8 (E x))=true:=hf
      rw[List.all_eq_true]at h0
      exact h0 x (by simpa using hx)
     split at h
     · rename_i u hq
       split at h
       · rename_i hu
         simp only[Option.some.injEq]at h;subst h
         exact⟨u,VR.of_fixd hg 8 u hu,fun w=>by rw[hcg];exact quiet_run hq w⟩
       · cases h
     · cases h
   · cases h
section defs
variable (P)
def rowV (t:TypeId)(cs:List Value)(o:Nat):Option Value :=
 match P.underlying t,P.info? t with
 | some _,some i=>if isAggB P t then(if o+i.size≤cs.length then some (.agg ⟨(cs.drop o).take i.size⟩)else none)else cs[o]?
 | _,_=>none
noncomputable def evR (E:Operand→Value) (H:Tr VObj) (o:Oper):Option (Value × Nat) :=
 match o.op with
 | .load t a =>
    match E a with
    | .pointer (some ⟨b,of,none⟩) =>
       match H.get b with
       | some (.row cs _ _ _)=>(rowV P t cs of).map fun v=>(v,b)
       | some (.ro cs _)=>(rowV P t cs of).map fun v=>(v,b)
       | _=>none
    | _=>none
 | _=>none
def evA (E:Operand→Value)(n:Nat)(o:Oper):Option (Value × VObj) :=
 match o.op with
 | .alloc t =>
    match P.info? t with
    | some i=>match i.zero with
       | some z=>if flat 8 (.agg z.cells)then some (.pointer (some ⟨n,0,none⟩), .row z.cells.toList t none (0,0))else none
       | none=>none
    | none=>none
 | .box t x=>some (.pointer (some ⟨n,0,none⟩), .row (E x).cells.toList t none (0,0))
 | .makeSlice t l c =>
    match P.underlying t,E l,E c with
    | some (.slice e), .int _ l, .int _ c =>
       match P.info? e with
       | some i=>match i.zero with
          | some z =>
             if flat 8 (.agg z.cells)∧0≤l∧l≤c∧c<9223372036854775808∧(i.bytes:Int)*c≤281474976710656∧c.toNat≠far then
              some (.slice (some ⟨n,0,none⟩) l.toNat c.toNat, .row ((List.range (c.toNat*i.size)).map fun j=>z.cells.toList.getD (j % z.cells.toList.length) default) e none (0,0))
             else none
          | none=>none
       | none=>none
    | _,_,_=>none
 | .buildSlice t len parts =>
    match P.underlying t with
    | some (.slice e) =>
       match P.info? e with
       | some i=>match i.zero with
          | some z =>
             if flat 8 (.agg z.cells)∧len*i.size≤16777216∧len≠far then
              match Instr.fill (fun j=>some (j*i.size,i.size)) ⟨(List.range (len*i.size)).map fun j=>z.cells.toList.getD (j % z.cells.toList.length) default⟩ (parts.toList.map fun p=>(p.1,E p.2))with
              | some cells=>some (.slice (some ⟨n,0,none⟩) len len, .row cells.toList e none (0,0))
              | none=>none
             else none
          | none=>none
       | none=>none
    | _=>none
 | .makeMap _ none=>some (.map (some n), .mp [] 0)
 | .range t x =>
    match P.underlying t,E x with
    | some .string, .string s=>some (.pointer (some ⟨n,0,none⟩), .other (.stringIter s 0))
    | _,_=>none
 | _=>none
end defs
theorem HR1.row {n:Nat}{cs:List Value}{e:TypeId}{lo:Option Nat}{fr:Nat × Nat}{w:World}(h:HR1 ρ n (.row cs e lo fr) w) :
 ∃b k c',ρ n=some (b,k)∧w.heap[b]? = some (.cells c' e fr)∧VRs ρ cs (c'.toList.take cs.length)∧cs.length≤c'.size:=by
 obtain⟨b,k,h1,c',h2,h3,h4, -⟩:=h
 exact⟨b,k,c',h1,h2,h3,h4⟩
theorem rowV_ok {t:TypeId}{cs:List Value}{of:Nat}{v:Value}(h:rowV P t cs of=some v){b:Nat}{c':Array Value}{e:TypeId}{fr:Nat × Nat}{w:World}
 (hb:w.heap[b]? = some (.cells c' e fr)) (hv:VRs ρ cs (c'.toList.take cs.length)) (hl:cs.length≤c'.size) :
 ∃v',VR ρ v v'∧(loadVar t ⟨b,of,none⟩).run P w = .ok v' w:=by
 unfold rowV at h
 cases hu:P.underlying t with
 | none=>simp[hu]at h
 | some d =>
    cases hi:P.info? t with
    | none=>simp[hu,hi]at h
    | some i =>
       simp only[hu,hi]at h
       have hcell : ∀j,w.cell? ⟨b,j,none⟩=c'[j]?:= fun j=>cell_of_row w b j c' e fr hb
       cases ha:isAggB P t with
       | true =>
          simp only[ha,if_true]at h
          split at h
          · rename_i hs
            simp only[Option.some.injEq]at h;subst h
            have hv':=(hv.drop of).take i.size
            have hlen:(((c'.toList.take cs.length).drop of).take i.size).length=i.size:=by
             simp only[List.length_take,List.length_drop,Array.length_toList];omega
            refine⟨.agg ⟨((c'.toList.take cs.length).drop of).take i.size⟩, .agg hv',?_⟩
            have hl:=run_loadCells_list (P:=P) w ⟨b,of,none⟩ (((c'.toList.take cs.length).drop of).take i.size) (fun j u hu=>by
             rw[Addr.add_lit,hcell]
             rw[List.getElem?_take]at hu
             split at hu
             · rw[List.getElem?_drop,List.getElem?_take]at hu
               split at hu
               · simpa using hu
               · cases hu
             · cases hu)
            rw[hlen]at hl
            simp[loadVar,run_isAgg hu,ha,sizeOf,typeInfo,hi,hl]
          · cases h
       | false =>
          simp only[ha,Bool.false_eq_true,if_false]at h
          obtain⟨v',h1,h2⟩:=hv.get h
          refine⟨v',h2,?_⟩
          have:w.cell? ⟨b,of,none⟩=some v':=by
           rw[hcell]
           rw[List.getElem?_take]at h1
           split at h1
           · simpa using h1
           · cases h1
          simp[loadVar,run_isAgg hu,ha,run_load,this]
theorem evR_ok {E E':Operand→Value}{H:Tr VObj}{o:Oper}{v:Value}{n:Nat}{w:World}(h:evR P E H o=some (v,n))(hE : ∀x∈o.op.operands,VR ρ (E x) (E' x))
 (hH : ∀ob,H.get n=some ob→HR1 ρ n ob w):(H.get n).isSome∧∃v',VR ρ v v'∧(execOp E' o).run P w = .ok (.value v') w:=by
  obtain⟨dst,op,ty,pos,after,guard⟩:=o
  unfold evR at h
  cases op with
  | load t a =>
     have ha:=hE a (by simp[Op.operands])
     simp only at h
     split at h
     · rename_i b of hv
       split at h
       · rename_i cs e lo fr hg
         simp only[Option.map_eq_some_iff,Prod.mk.injEq]at h
         obtain⟨v0,hr,rfl,rfl⟩:=h
         obtain⟨b',k,c',h1,h2,h3,h4⟩:=(hH _ hg).row
         rw[hv]at ha
         obtain⟨b'',k'',h5,he⟩:=ha.ptr_inv
         simp only at h5 he
         rw[h1]at h5
         injection h5 with h5;injection h5 with h5 _;subst h5
         obtain⟨v',hv',hrun⟩:=rowV_ok hr h2 h3 h4
         exact⟨by simp[hg],v',hv',by simp[execOp,Instr.loadAt,he,Instr.sureAddr,hrun]⟩
       · rename_i cs z hg
         simp only[Option.map_eq_some_iff,Prod.mk.injEq]at h
         obtain⟨v0,hr,rfl,rfl⟩:=h
         obtain⟨b',k,h1,c',e',fr',h2,h3,h4, -⟩:=hH _ hg
         rw[hv]at ha
         obtain⟨b'',k'',h5,he⟩:=ha.ptr_inv
         simp only at h5 he
         rw[h1]at h5
         injection h5 with h5;injection h5 with h5 _;subst h5
         obtain⟨v',hv',hrun⟩:=rowV_ok hr h2 h3 h4
         exact⟨by simp[hg],v',hv',by simp[execOp,Instr.loadAt,he,Instr.sureAddr,hrun]⟩
       · cases h
     · cases h
  | _=>simp at h
def upd (ρ:Ren)(n:Nat)(x:Nat × K):Ren:=fun m=>if m=n then some x else ρ m
theorem upd_self (ρ:Ren)(n:Nat)(x:Nat × K):upd ρ n x n=some x:=by simp[upd]
theorem upd_ne (ρ:Ren){n m:Nat}(x:Nat × K)(h:m≠n):upd ρ n x m=ρ m:=by simp[upd,h]
theorem upd_sub {ρ:Ren}{n:Nat}{x:Nat × K}(h:ρ n=none):Sub ρ (upd ρ n x):=fun m y hy=>by
 by_cases e:m=n
 · subst e;rw[h]at hy;cases hy
 · rw[upd_ne _ _ e];exact hy
theorem Post.fresh {H H':Nat→Option VObj}{w w₀:World}{n:Nat}{k:K}{ob:Obj}(hn:ρ n=none)(hlt:LT ρ w)
 (hw:w₀.heap=w.heap∧w₀.os=w.os∧w₀.tape=w.tape∧w₀.output=w.output)
 (h : ∀o,H' n=some o→HR1 (upd ρ n (w.heap.size,k)) n o (w₀.alloc ob)) :
 Post ρ H w (· = n) (fun _=>False) (upd ρ n (w.heap.size,k)) H' (w₀.alloc ob) where
 ren m hm:=upd_ne _ _ hm
 lt:=⟨by have:=hlt.1;simp only[World.size_alloc,hw.1];omega,fun m b k' hb=>by
  simp only[World.size_alloc,hw.1]
  by_cases e:m=n
  · subst e;rw[upd_self]at hb;injection hb with hb;injection hb with hb _;omega
  · rw[upd_ne _ _ e]at hb;have:=hlt.2 m b k' hb;omega⟩
 hr m o hm ho:=by rcases hm with rfl | hm;exact h o ho;exact hm.elim
 new m b k' hm _ hb:=by
  rcases hm with rfl | hm
  · rw[upd_self]at hb;injection hb with hb;injection hb with hb _;exact .inl (by omega)
  · exact hm.elim
 inj m m' b k' k'' hm hm' _ _ _ _:=by
  rcases hm with rfl | hm
  · rcases hm' with rfl | hm'
    · rfl
    · exact hm'.elim
  · exact hm.elim
 frame b hb _:=by rw[old_alloc _ _ _ (by rw[hw.1];exact hb),hw.1]
 live d hd:=hd.elim
 free m hm:=hm▸hn
 os:=hw.2.1
 tape:=hw.2.2.1
 output:=hw.2.2.2
 size:=by simp[hw.1]
theorem HR1.fresh {w w₀:World}{n:Nat}{cs cs':List Value}{e:TypeId}(hw:w₀.heap=w.heap)(h:VRs (upd ρ n (w.heap.size,0)) cs cs') :
 HR1 (upd ρ n (w.heap.size,0)) n (.row cs e none (0,0)) (w₀.alloc (.cells ⟨cs'⟩ e)):=by
 refine⟨_,_,upd_self _ _ _,⟨cs'⟩,?_,?_,?_,?_⟩
 · rw[←hw];exact heap_alloc_new _ _
 · have:=h.length
   simp only[List.take_of_length_le (Nat.le_of_eq this)];exact h
 · have:=h.length;simp;omega
 · have:=h.length;simp;omega
theorem VR.str_inv {s:ByteArray}{v:Value}(h:VR ρ (.string s) v):v = .string s:=by cases h;rfl
theorem VR.cells {ρ:Ren}{v v':Value}(h:VR ρ v v'):VRs ρ v.cells.toList v'.cells.toList:=h.cells'
theorem flat_agg {n:Nat}{a:Array Value}(h:flat (n+1) (.agg a)=true):VRs ρ a.toList a.toList:=by
 obtain⟨l⟩:=a
 exact VRs.refl_of (VR.of_flat n) h
theorem VRs.of_all {l l':List Value}(hl:l'.length=l.length)(h : ∀(i:Nat) (v v':Value),l[i]? = some v→l'[i]? = some v'→VR ρ v v'):VRs ρ l l':=by
 induction l generalizing l' with
 | nil=>cases l' with | nil=>exact .nil | cons=>simp at hl
 | cons x l ih =>
    cases l' with
    | nil=>simp at hl
    | cons y l'=>exact .cons (h 0 x y (by simp) (by simp)) (ih (by simpa using hl) fun i v v' hv hv'=>h (i+1) v v' (by simpa using hv) (by simpa using hv'))
theorem made_eq (z:Array Value)(n:Nat):madeCells z n=⟨(List.range n).map fun j=>z.toList.getD (j % z.toList.length) default⟩:=by
 apply Array.toList_inj.1
 simp only[madeCells,Array.toList_map,Array.toList_range]
 refine List.map_congr_left fun j _=> ?_
 rw[getElem!_def,List.getD_eq_getElem?_getD]
 simp only[Array.length_toList,Array.getElem?_toList]
 cases z[j % z.size]?<;> rfl
theorem made_VRs {z:Array Value}{n:Nat}(hf:flat 8 (.agg z)=true):VRs ρ ((List.range n).map fun j=>z.toList.getD (j % z.toList.length) default) ((List.range n).map fun j=>z.toList.getD (j % z.toList.length) default):=by
 have hzz:VRs ρ z.toList z.toList:=flat_agg hf
 refine VRs.of_all rfl fun j v v' hv hv'=> ?_
 rw[hv]at hv';injection hv' with hv';subst hv'
 rw[List.getElem?_map,Option.map_eq_some_iff]at hv
 obtain⟨q,hq,rfl⟩:=hv
 rw[List.getD_eq_getElem?_getD]
 cases hg:z.toList[q % z.toList.length]? with
 | none=>exact .atom rfl
 | some u=>obtain⟨u',h1,h2⟩:=hzz.get hg;rw[hg]at h1;injection h1 with h1;subst h1;exact h2
theorem run_buildSlice {w:World}{t e:TypeId}{i:TypeInfo}{z:Value}{len:Nat}{parts:Array (Nat × Value)}{cells:Array Value}(hu:P.underlying t=some (.slice e))(hi:P.info? e=some i)
 (hz:i.zero=some z) (hl:len*i.size≤16777216) (h:Instr.fill (fun j=>some (j*i.size,i.size)) (madeCells z.cells (len*i.size)) parts.toList=some cells) :
 (Instr.buildSlice t len parts).run P w = .ok (.slice (some ⟨w.heap.size,0,none⟩) len len) (w.alloc (.cells cells e)):=by
  have n1: ¬16777216<len*i.size:=by omega
  by_cases h0:len*i.size=0
  · rw[h0]at h
    have hm:madeCells z.cells 0 = #[]:=by simp[madeCells]
    rw[hm]at h
    have e0:(Array.range 0).map (fun _:Nat=>(default:Value)) = #[]:=by simp[Array.range_zero']
    simp[Instr.buildSlice,run_underlying hu,sizeOf,typeInfo,hi,h0,newRow]
    rw[e0,h]
    rfl
  · have h':=h
    simp only[madeCells]at h'
    simp[Instr.buildSlice,run_underlying hu,sizeOf,typeInfo,zeroValue,hi,hz,n1,h0,h',newRow]
theorem evA_ok {E E':Operand→Value}{H H':Nat→Option VObj}{o:Oper}{v:Value}{n:Nat}{ob:VObj}{w:World}(h:evA P E n o=some (v,ob))(hE : ∀x∈o.op.operands,VR ρ (E x) (E' x))
 (hn:ρ n=none) (hlt:LT ρ w) (hH':H' n=some ob) :
 ∃v' w' ρ',VR ρ' v v'∧Post ρ H w (· = n) (fun _=>False) ρ' H' w'∧(execOp E' o).run P w = .ok (.value v') w':=by
 obtain⟨dst,op,ty,pos,after,guard⟩:=o
 have hs:=upd_sub (x:=((w.heap.size,0):Nat × K)) hn
 have fin : ∀ {cs cs':List Value} {e:TypeId},ob = .row cs e none (0,0)→VRs (upd ρ n (w.heap.size,0)) cs cs' →
  Post ρ H w (· = n) (fun _=>False) (upd ρ n (w.heap.size,0)) H' (w.alloc (.cells ⟨cs'⟩ e)):=fun he hv =>
  Post.fresh hn hlt ⟨rfl,rfl,rfl,rfl⟩ fun o ho=>by
   rw[hH']at ho;injection ho with ho;subst ho;subst he;exact HR1.fresh rfl hv
 unfold evA at h
 cases op with
 | alloc t =>
    simp only at h
    split at h
    · rename_i i hi
      split at h
      · rename_i z hz
        split at h
        · rename_i hf
          simp only[Option.some.injEq,Prod.mk.injEq]at h
          obtain⟨rfl,rfl⟩:=h
          refine⟨_,_,_, .ptr (upd_self _ _ _),fin rfl (flat_agg hf),?_⟩
          simp[execOp,Instr.alloc,zeroValue,typeInfo,hi,hz,newVar,newRow]
        · cases h
      · cases h
    · cases h
 | box t x =>
    have hx:=hE x (by simp[Op.operands])
    simp only[Option.some.injEq,Prod.mk.injEq]at h
    obtain⟨rfl,rfl⟩:=h
    refine⟨_,_,_, .ptr (upd_self _ _ _),fin rfl (hx.cells.mono hs),?_⟩
    simp[execOp,Instr.box,newVar,newRow]
 | makeSlice t l c =>
    have hl:=hE l (by simp[Op.operands]);have hc:=hE c (by simp[Op.operands])
    simp only at h
    split at h
    · rename_i e kl li kc ci hu hvl hvc
      rw[hvl]at hl;rw[hvc]at hc
      split at h
      · rename_i i hi
        split at h
        · rename_i z hz
          split at h
          · rename_i hcond
            obtain⟨hf,h0,hle,hc64,hby,hfar⟩:=hcond
            simp only[Option.some.injEq,Prod.mk.injEq]at h
            obtain⟨rfl,rfl⟩:=h
            have hzz:VRs (upd ρ n (w.heap.size,0)) z.cells.toList z.cells.toList:=flat_agg hf
            have hwl:IntKind.i64.wrap li=li:=IntWalk.i64_in _ (by omega)
            have hwc:IntKind.i64.wrap ci=ci:=IntWalk.i64_in _ (by omega)
            refine⟨.slice (some ⟨w.heap.size,0,none⟩) li.toNat ci.toNat,_,_, .slice (upd_self _ _ _) hfar,fin (cs':=(List.range (ci.toNat*i.size)).map fun j=>z.cells.toList.getD (j % z.cells.toList.length) default) rfl ?_,?_⟩
            · refine VRs.of_all (by simp) fun j v v' hv hv'=> ?_
              rw[hv]at hv';injection hv' with hv';subst hv'
              rw[List.getElem?_map,Option.map_eq_some_iff]at hv
              obtain⟨q,hq,rfl⟩:=hv
              rw[List.getD_eq_getElem?_getD]
              cases hg:z.cells.toList[q % z.cells.toList.length]? with
              | none=>exact .atom rfl
              | some u=>obtain⟨u',h1,h2⟩:=hzz.get hg;rw[hg]at h1;injection h1 with h1;subst h1;exact h2
            · have hr:=run_make (P:=P) w t e i z hu hi hz kl kc li ci h0 hle hby (by omega)
              have hm:madeCells z.cells (ci.toNat*i.size)=⟨(List.range (ci.toNat*i.size)).map fun j=>z.cells.toList.getD (j % z.cells.toList.length) default⟩:=by
               apply Array.toList_inj.1
               simp only[madeCells,Array.toList_map,Array.toList_range]
               refine List.map_congr_left fun j _=> ?_
               rw[getElem!_def,List.getD_eq_getElem?_getD]
               simp only[Array.length_toList,Array.getElem?_toList]
               cases z.cells[j % z.cells.size]?<;> rfl
              rw[hm]at hr
              simp[execOp,hl.int_inv,hc.int_inv,hr]
          · cases h
        · cases h
      · cases h
    · cases h
 | buildSlice t len parts =>
    simp only at h
    split at h
    · rename_i e hu
      split at h
      · rename_i i hi
        split at h
        · rename_i z hz
          split at h
          · rename_i hc
            obtain⟨hf,hl,hfar⟩:=hc
            split at h
            · rename_i cells hfill
              simp only[Option.some.injEq,Prod.mk.injEq]at h
              obtain⟨rfl,rfl⟩:=h
              obtain⟨r',h1,h2⟩:=fill_ok (ρ:=ρ) (E:=E) (E':=E') parts.toList _ _ cells (fun p hp=>hE p.2 (by simp[Op.operands];exact⟨p.1,by simpa using hp⟩)) (made_VRs hf) hfill
              rw[←made_eq]at h1
              have hr:=run_buildSlice (P:=P) (w:=w) (parts:=parts.map fun(i,x)=>(i,E' x)) hu hi hz hl (by simpa using h1)
              obtain⟨l'⟩:=r'
              refine⟨_,_,_, .slice (upd_self _ _ _) hfar,fin rfl (h2.mono hs),?_⟩
              simp[execOp,hr]
            · cases h
          · cases h
        · cases h
      · cases h
    · cases h
 | makeMap t r =>
    cases r with
    | some r=>simp at h
    | none =>
       simp only[Option.some.injEq,Prod.mk.injEq]at h
       obtain⟨rfl,rfl⟩:=h
       refine⟨_,_,_, .map (upd_self _ _ _),Post.fresh (k:=0) (ob:= .map #[] 0) hn hlt ⟨rfl,rfl,rfl,rfl⟩ fun o ho=> ?_,?_⟩
       · rw[hH']at ho;injection ho with ho;subst ho;exact⟨_,_,upd_self _ _ _,[],heap_alloc_new _ _, .nil⟩
       · simp[execOp,Instr.makeMap]
 | range t x =>
    have hx:=hE x (by simp[Op.operands])
    simp only at h
    split at h
    · rename_i s hu hv
      rw[hv]at hx
      have hx':E' x = .string s:=hx.str_inv
      simp only[Option.some.injEq,Prod.mk.injEq]at h
      obtain⟨rfl,rfl⟩:=h
      refine⟨_,_,_, .ptr (upd_self _ _ _),Post.fresh (k:=0) (ob:= .stringIter s 0) hn hlt ⟨rfl,rfl,rfl,rfl⟩ fun o ho=> ?_,?_⟩
      · rw[hH']at ho;injection ho with ho;subst ho;exact⟨_,_,upd_self _ _ _,heap_alloc_new _ _⟩
      · simp[execOp,Instr.range,run_underlying hu,hx']
    · cases h
 | _=>simp at h
end
end Go.Eng
set_option linter.unusedSectionVars false
namespace Go.Eng
open Go
section
variable [Base] {P:Program} {ρ:Ren}
structure Out where
 v:Value
 H:Tr VObj
 next:Nat
 dirty:List Nat
def wide:Nat:=40
theorem Tr.get_put' {α:Type}(x:Option α)(t:Tr α)(n m:Nat)(h:n<1099511627775):(Tr.put x wide t n).get m=if m=n then x else t.get m :=
 Tr.get_put x wide t n m (by simpa[wide]using h)
def one (v:Value):Bool:=v.oneCell'
theorem VR.one {v v':Value}(h:VR ρ v v')(ho:v.oneCell'=true):v'.oneCell'=true:=by
 cases h<;>first | exact ho | rfl | assumption
theorem VRs.ones {l l':List Value}(h:VRs ρ l l')(ho:l.all one=true) : ∀v∈l',v.oneCell'=true:=by
 induction l generalizing l' with
 | nil=>cases h;simp
 | cons x l ih =>
    cases h with
    | cons hx ht =>
       simp only[List.all_cons,Bool.and_eq_true]at ho
       intro v hv
       cases hv with
       | head=>exact hx.one ho.1
       | tail _ hv=>exact ih ht ho.2 v hv
section defs
variable (P)
noncomputable def evS (E:Operand→Value) (H:Tr VObj) (next:Nat) (o:Oper):Option Out :=
 match o.op with
 | .store t a x =>
    match E a with
    | .pointer (some ⟨b,of,none⟩) =>
       match H.get b,P.info? t with
       | some (.row cs e lo fr),some i =>
          if fr.1=0∧fr.2=0∧(E x).cells.toList.length=i.size∧of+i.size≤cs.length∧(E x).cells.toList.all one=true∧b<1099511627775 then
           some ⟨.tuple #[],Tr.put (some (.row (cs.take of++(E x).cells.toList++cs.drop (of+i.size)) e lo fr)) wide H b,next,[b]⟩
          else none
       | _,_=>none
    | _=>none
 | _=>none
end defs
theorem World.setRow_same {w:World}(g:Nat)(cs:Array Value):(w.setRow g cs).os=w.os∧(w.setRow g cs).tape=w.tape∧(w.setRow g cs).output=w.output:=⟨rfl,rfl,rfl⟩
theorem Post.write {H H':Nat→Option VObj}{w:World}{n:Nat}{o:VObj}(hlt:LT ρ w)(hl:wrO (H n)=true){b:Nat}{k:K}(hb:ρ n=some (b,k))
 {w':World} (hw:(∀j,j≠b→w'.heap[j]? = w.heap[j]?)∧w'.heap.size=w.heap.size∧w'.os=w.os∧w'.tape=w.tape∧w'.output=w.output) (hH:H' n=some o) (h:HR1 ρ n o w') :
 Post ρ H w (fun _=>False) (· = n) ρ H' w' where
 ren _ _:=rfl
 lt:=⟨by rw[hw.2.1];exact hlt.1,fun m b k hm=>by rw[hw.2.1];exact hlt.2 m b k hm⟩
 hr m o' hm ho:=by rcases hm with hm | rfl;exact hm.elim;rw[hH]at ho;injection ho with ho;exact ho▸h
 new m b' k' hm _ hb':=by rcases hm with hm | rfl;exact hm.elim;exact .inr ⟨m,k',rfl,hb'⟩
 inj m m' b k k' hm hm' _ _ _ _:=by
  rcases hm with hm | rfl
  · exact hm.elim
  · rcases hm' with hm' | rfl
    · exact hm'.elim
    · rfl
 frame j hj hd:=hw.1 j fun e=>hd n k rfl (e▸hb)
 live d hd:=hd▸hl
 free m hm:=hm.elim
 os:=hw.2.2.1
 tape:=hw.2.2.2.1
 output:=hw.2.2.2.2
 size:=Nat.le_of_eq hw.2.1.symm
theorem List.take_splice {α:Type}(c:List α)(n of:Nat)(vs:List α)(h:of+vs.length≤n)(hn:n≤c.length) :
 (c.take of++vs++c.drop (of+vs.length)).take n=(c.take n).take of++vs++(c.take n).drop (of+vs.length):=by
  have e1:(c.take of).length=of:=by simp;omega
  have e2:(c.take n).take of=c.take of:=by rw[List.take_take,Nat.min_eq_left (by omega)]
  have e3:(c.take of++vs).length=of+vs.length:=by simp;omega
  rw[List.take_append,e3,e2,List.take_of_length_le (by omega),List.drop_take]
theorem HR1.splice {n b of:Nat}{k:K}{cs vs vs':List Value}{e:TypeId}{lo:Option Nat}{w:World}{c':Array Value}(hb:ρ n=some (b,k))
 (hc:w.heap[b]? = some (.cells c' e (0,0))) (hv:VRs ρ cs (c'.toList.take cs.length)) (hl:cs.length≤c'.size)
 (hlo:match lo with | none=>c'.size=cs.length | some z=>c'.size=k.n*z∧(0,0)=(0,0)∧k.n≤maxLen)
 (hvs:VRs ρ vs vs') (hof:of+vs.length≤cs.length) :
 HR1 ρ n (.row (cs.take of++vs++cs.drop (of+vs.length)) e lo (0,0)) (w.setRow b (c'.toList.take of++vs'++c'.toList.drop (of+vs'.length)).toArray):=by
 have hlen:(cs.take of++vs++cs.drop (of+vs.length)).length=cs.length:=by simp;omega
 have hlen':=hvs.length
 refine⟨b,k,hb,_,setRow_heap w b c' _ e _ hc,?_,?_,?_⟩
 · rw[hlen]
   rw[List.take_splice c'.toList cs.length of vs' (by omega) (by simpa using hl),hlen']
   exact((hv.take of).append hvs).append (hv.drop _)
 · rw[hlen];simp;omega
 · have:(c'.toList.take of++vs'++c'.toList.drop (of+vs'.length)).toArray.size=c'.size:=by simp;omega
   rw[hlen,this]
   exact hlo
theorem evS_ok {E E':Operand→Value}{H:Tr VObj}{next:Nat}{o:Oper}{out:Out}{w:World}(h:evS P E H next o=some out)(hE : ∀x∈o.op.operands,VR ρ (E x) (E' x))
 (R:Rel ρ H.get w) :
 ∃v' w',VR ρ out.v v'∧Post ρ H.get w (fun n=>next≤n∧n<out.next) (· ∈ out.dirty) ρ out.H.get w' ∧
  (∀n,¬(next≤n∧n<out.next)→n∉out.dirty→out.H.get n=H.get n)∧next≤out.next∧((execOp E' o).run P w = .ok .skip w'∧v'=undef):=by
  obtain⟨dst,op,ty,pos,after,guard⟩:=o
  unfold evS at h
  cases op with
  | store t a x =>
     have ha:=hE a (by simp[Op.operands]);have hx:=hE x (by simp[Op.operands])
     simp only at h
     split at h
     · rename_i b of hv
       rw[hv]at ha
       split at h
       · rename_i cs e lo fr i hg hi
         split at h
         · rename_i hc
           obtain⟨f1,f2,hsz,hof,hone,hb40⟩:=hc
           obtain⟨fr1,fr2⟩:=fr
           simp only at f1 f2
           subst f1 f2
           simp only[Option.some.injEq]at h
           subst h
           have hr:=R.hr b _ hg
           obtain⟨b',k,h1,c',h2,h3,h4,h5⟩:=hr
           obtain⟨b'',k'',h6,he⟩:=ha.ptr_inv
           simp only at h6 he
           rw[h1]at h6
           injection h6 with h6;injection h6 with h6 _;subst h6
           have hcs:=hx.cells
           have hlen:=hcs.length
           have hst:=run_storeCells_at P b' of e (E' x).cells.toList 0 c' w h2 (by omega) (hcs.ones hone)
           simp only[Nat.add_zero]at hst
           refine⟨undef,w.setRow b' (c'.toList.take of++(E' x).cells.toList++c'.toList.drop (of+(E' x).cells.toList.length)).toArray, .tuple .nil,?_,?_,Nat.le_refl _,?_,rfl⟩
           rotate_left
           · intro n _ hn
             simp only[List.mem_singleton]at hn
             rw[Tr.get_put' _ _ _ _ hb40,if_neg hn]
           · simp only[execOp,Instr.storeAt,he,Instr.sureAddr,Sem.run_bind,Sem.run_pure,Result.andThen_ok,storeVar,sizeOf,typeInfo,run_program,hi]
             rw[if_neg (by have:=hlen.trans hsz;simpa using this),hst]
             rfl
           · have hsp:=HR1.splice (of:=of) (k:=k) h1 h2 h3 h4 h5 hcs (by omega)
             rw[hsz]at hsp
             have hpost:=Post.write (ρ:=ρ) (H:=H.get) (H':=(Tr.put (some (VObj.row (cs.take of++(E x).cells.toList++cs.drop (of+i.size)) e lo (0,0))) wide H b).get)
              (n:=b) (w':=w.setRow b' (c'.toList.take of++(E' x).cells.toList++c'.toList.drop (of+(E' x).cells.toList.length)).toArray)
              R.lt (by simp[hg,wrO]) h1 ⟨fun j hj=>setRow_other w b' j _ hj,by simp,rfl,rfl,rfl⟩ (by rw[Tr.get_put' _ _ _ _ hb40,if_pos rfl]) hsp
             have e1:(fun n=>next≤n∧n<next)=fun _=>False:=by funext n;simp only[eq_iff_iff,iff_false];omega
             have e2:(fun n=>n∈ [b])=fun n=>n=b:=by funext n;simp
             simp only[e1,e2]
             exact hpost
         · cases h
       · cases h
     · cases h
  | _=>simp at h
end
end Go.Eng
