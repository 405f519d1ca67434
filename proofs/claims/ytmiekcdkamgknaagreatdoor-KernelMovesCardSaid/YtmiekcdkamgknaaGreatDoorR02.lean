import Derived.Test.YtmiekcdkamgknaaGreatDoorR01
set_option linter.unusedSectionVars false
namespace Go.Eng
open Go
section
variable [Base] {P:Program} {ρ:Ren}
theorem VRs.mapV {α:Type}{E E':α→Value} : ∀(l:List α),(∀x∈l,VR ρ (E x) (E' x))→VRs ρ (l.map E) (l.map E')
 | [],_=> .nil
 | x::l,h=> .cons (h x (by simp)) (VRs.mapV l fun y hy=>h y (by simp[hy]))
theorem VR.bool_inv {b:Bool}{v:Value}(h:VR ρ (.bool b) v):v = .bool b:=by cases h;rfl
theorem VR.int_inv {k:IntKind}{n:Int}{v:Value}(h:VR ρ (.int k n) v):v = .int k n:=by cases h;rfl
theorem VR.ptr_inv {a:Addr}{v:Value}(h:VR ρ (.pointer (some a)) v) : ∃b' k,ρ a.block=some (b',k)∧v = .pointer (some ⟨b',a.off,a.spot⟩):=by
 cases h with
 | atom h=>simp[Eng.atom]at h
 | ptr h=>exact⟨_,_,h,rfl⟩
theorem VR.nilptr_inv {v:Value}(h:VR ρ (.pointer none) v):v = .pointer none:=by cases h;rfl
theorem VR.nilIface_inv {v:Value}(h:VR ρ .nilIface v):v = .nilIface:=by cases h;rfl
theorem VR.nilFunc_inv {v:Value}(h:VR ρ .nilFunc v):v = .nilFunc:=by cases h;rfl
theorem VR.nilmap_inv {v:Value}(h:VR ρ (.map none) v):v = .map none:=by cases h;rfl
theorem VR.nilslice_inv {n c:Nat}{v:Value}(h:VR ρ (.slice none n c) v):v = .slice none n c:=by cases h;rfl
theorem VR.map_inv {b:Nat}{v:Value}(h:VR ρ (.map (some b)) v) : ∃b' k,ρ b=some (b',k)∧v = .map (some b'):=by
 cases h with
 | atom h=>simp[Eng.atom]at h
 | map h=>exact⟨_,_,h,rfl⟩
theorem VR.tuple_inv {l:List Value}{v:Value}(h:VR ρ (.tuple ⟨l⟩) v) : ∃l',VRs ρ l l'∧v = .tuple ⟨l'⟩:=by
 cases h with
 | atom h=>simp[Eng.atom]at h
 | tuple h=>exact⟨_,h,rfl⟩
theorem VR.agg_inv {l:List Value}{v:Value}(h:VR ρ (.agg ⟨l⟩) v) : ∃l',VRs ρ l l'∧v = .agg ⟨l'⟩:=by
 cases h with
 | atom h=>simp[Eng.atom]at h
 | agg h=>exact⟨_,h,rfl⟩
theorem VR.iface_inv {t:TypeId}{x v:Value}(h:VR ρ (.iface t x) v) : ∃x',VR ρ x x'∧v = .iface t x':=by
 cases h with
 | atom h=>simp[Eng.atom]at h
 | iface h=>exact⟨_,h,rfl⟩
theorem VR.func_inv {f:FuncId}{a c:Array Value}{v:Value}(h:VR ρ (.func (.func f) a c) v) :
 ∃a' c',VRs ρ a.toList a'∧VRs ρ c.toList c'∧v = .func (.func f) ⟨a'⟩ ⟨c'⟩:=by
 cases h with
 | atom h=>simp[Eng.atom]at h
 | func hf ha hc=>exact⟨_,_,ha,hc,rfl⟩
theorem VR.slice_inv {a:Addr}{n c:Nat}{v:Value}(h:VR ρ (.slice (some a) n c) v) : ∃a' c',v = .slice (some a') n c' ∧
 (a.spot=none∧((a'.off=a.off∧a'.spot=none∧∃k,ρ a.block=some (a'.block,k)∧(c≠far→c'=c)∧(c=far→n≤c'∧(a.off=0→c'=k.n)))∨(a=⟨far,0,none⟩∧n=0∧c=far))):=by
  cases h with
  | atom h=>simp[Eng.atom]at h
  | slice h hc=>exact⟨_,_,rfl,rfl, .inl ⟨rfl,rfl,_,h,fun _=>rfl,fun e=>absurd e hc⟩⟩
  | loose h hn ho=>exact⟨_,_,rfl,rfl, .inl ⟨rfl,rfl,_,h,fun e=>absurd rfl e,fun _=>⟨hn,ho⟩⟩⟩
  | empty=>exact⟨_,_,rfl,rfl, .inr ⟨rfl,rfl,rfl⟩⟩
theorem sliceV_ok {t:TypeId}{x x' v:Value}{vl vh mx vl' vh' mx':Option Value}(h:sliceV P t x vl vh mx=some v)(hx:VR ρ x x')
 (hlo : ∀len cap l h m,bounds len cap vl vh mx=some (l,h,m)→bounds len cap vl' vh' mx'=some (l,h,m)) (hmx:mx=none↔mx'=none) :
 ∃v',VR ρ v v'∧∀w,(Instr.sliceAt t x' vl' vh' mx').run P w = .ok v' w:=by
 have ex : ∀ {b b' o l h m:Nat} {k:K} {i:TypeInfo},ρ b=some (b',k)→m-l≠far →
  VR ρ (.slice (some (if m=l then⟨b,o,none⟩else(⟨b,o,none⟩:Addr).add (l*i.size))) (h-l) (m-l))
   (.slice (some (if m=l then⟨b',o,none⟩else(⟨b',o,none⟩:Addr).add (l*i.size))) (h-l) (m-l)):=by
   intro b b' k o l h m i hb hf
   split
   · exact .slice hb hf
   · simp only[Addr.add_lit];exact .slice hb hf
 unfold sliceV at h
 cases hu:P.underlying t with
 | none=>simp[hu]at h
 | some d =>
    rw[hu]at h
    cases d with
    | array n elem =>
       cases x with
       | pointer a =>
          cases a with
          | none=>simp at h
          | some a =>
             obtain⟨b,o,s⟩:=a
             cases s with
             | some s=>simp at h
             | none =>
                obtain⟨b',k,hb,rfl⟩:=hx.ptr_inv
                simp only at h hb
                split at h
                · rename_i i l h' m hi hbd
                  split at h
                  · cases h
                  · rename_i hne
                    simp only[Option.some.injEq]at h
                    subst h
                    refine⟨_,ex (i:=i) hb hne,fun w=> ?_⟩
                    simp[Instr.sliceAt,run_underlying hu,Instr.sureAddr,bounds_run (hlo _ _ _ _ _ hbd),sizeOf,typeInfo,hi]
                · cases h
       | _=>simp at h
    | slice elem =>
       cases x with
       | slice a len cap =>
          cases a with
          | none=>simp at h
          | some a =>
             obtain⟨b,o,s⟩:=a
             cases s with
             | some s=>simp at h
             | none =>
                obtain⟨a',c',rfl, -,hx'⟩:=hx.slice_inv
                simp only at h
                cases hi:P.info? elem with
                | none=>simp[hi]at h
                | some i =>
                   simp only[hi]at h
                   have run : ∀(l h m:Nat),bounds len c' vl' vh' mx'=some (l,h,m)→∀w,(Instr.sliceAt t (.slice (some a') len c') vl' vh' mx').run P w =
                    .ok (.slice (some (if m=l then a' else a'.add (l*i.size))) (h-l) (m-l)) w:=fun l h m hb w=>by
                    simp only[Instr.sliceAt,Sem.run_bind,run_underlying hu,Result.andThen_ok,Instr.slice,bounds_run hb,sizeOf,typeInfo,run_program,hi,Sem.run_pure,Option.map_some]
                    split<;>rfl
                   by_cases hf:cap=far
                   · simp only[hf,if_true]at h
                     cases mx with
                     | none =>
                        have hmx':=hmx.1 rfl
                        subst hmx'
                        cases hbd:bounds len len vl vh none with
                        | none=>simp[hbd]at h
                        | some q =>
                           obtain⟨l,hh,m⟩:=q
                           simp only[hbd]at h
                           have hle:=bounds_le hbd (Nat.le_refl _)
                           have hm:hh≤len:=by
                            have:=bounds_none hbd (Nat.le_refl _)
                            rw[hbd]at this;injection this with this;injection this with _ this;injection this with _ this;omega
                           by_cases hbf:b=far
                           · simp only[hbf,if_true]at h
                             split at h
                             · rename_i hz
                               obtain⟨hl,hh0,hlen,ho⟩:=hz
                               subst hl hh0 hlen ho
                               simp only[Option.some.injEq]at h
                               subst h
                               have hb':=bounds_none (hlo _ _ _ _ _ hbd) (Nat.zero_le c')
                               refine⟨_,?_,run _ _ _ hb'⟩
                               rw[hbf,hf]at hx
                               simpa[Addr.add_zero']using hx
                             · cases h
                           · simp only[hbf,if_false]at h
                             rcases hx' with⟨ho,hsp,k,hk, -,hc⟩ | ⟨he, -, -⟩
                             · obtain⟨hlen,hck⟩:=hc hf
                               have hb':=bounds_none (hlo _ _ _ _ _ hbd) hlen
                               obtain⟨bb,oo,ss⟩:=a'
                               simp only at ho hsp hk
                               subst ho hsp
                               split at h
                               · cases h
                               · rename_i hsz
                                 split at h
                                 · rename_i hl
                                   subst hl
                                   simp only[Option.some.injEq]at h
                                   subst h
                                   refine⟨_,?_,run _ _ _ hb'⟩
                                   have:(if c'=0 then(⟨bb,oo,none⟩:Addr)else(⟨bb,oo,none⟩:Addr).add (0*i.size))=⟨bb,oo,none⟩:=by split<;>simp[Addr.add_lit]
                                   rw[this]
                                   exact .loose hk (by omega) hck
                                 · rename_i hl
                                   split at h
                                   · rename_i hll
                                     simp only[Option.some.injEq]at h
                                     subst h
                                     refine⟨_,?_,run _ _ _ hb'⟩
                                     rw[if_neg (by omega),Addr.add_lit]
                                     refine .loose hk (by omega) (fun e=> ?_)
                                     have:0<l*i.size:=Nat.mul_pos (by omega) (by omega)
                                     omega
                                   · simp only[Option.some.injEq]at h
                                     subst h
                                     refine⟨_,?_,run _ _ _ hb'⟩
                                     have:hh-l=0:=by omega
                                     rw[this]
                                     split<;>exact .empty
                             · injection he with he;exact absurd he hbf
                     | some z =>
                        cases hbd:bounds len len vl vh (some z)with
                        | none=>simp[hbd]at h
                        | some q =>
                           obtain⟨l,hh,m⟩:=q
                           simp only[hbd]at h
                           split at h
                           · cases h
                           · rename_i hbf
                             split at h
                             · cases h
                             · rename_i hne
                               simp only[Option.some.injEq]at h
                               subst h
                               rcases hx' with⟨ho,hsp,k,hk, -,hc⟩ | ⟨he, -, -⟩
                               · obtain⟨hlen,hck⟩:=hc hf
                                 obtain⟨bb,oo,ss⟩:=a'
                                 simp only at ho hsp hk
                                 subst ho hsp
                                 cases mx' with
                                 | none=>exact absurd (hmx.2 rfl) (by simp)
                                 | some z'=>exact⟨_,ex (i:=i) hk hne,run _ _ _ (bounds_some (hlo _ _ _ _ _ hbd) hlen)⟩
                               · injection he with he;exact absurd he hbf
                   · simp only[hf,if_false]at h
                     rcases hx' with⟨ho,hsp,k,hk,hc, -⟩ | ⟨-, -,he⟩
                     · have:=hc hf
                       subst this
                       obtain⟨bb,oo,ss⟩:=a'
                       simp only at ho hsp hk
                       subst ho hsp
                       split at h
                       · rename_i l hh m hbd
                         split at h
                         · cases h
                         · rename_i hne
                           simp only[Option.some.injEq]at h
                           subst h
                           exact⟨_,ex (i:=i) hk hne,run _ _ _ (hlo _ _ _ _ _ hbd)⟩
                       · cases h
                     · exact absurd he hf
       | _=>simp at h
    | _=>simp at h
theorem eqD {t:TypeId}{w:World}{b:Bool}(x y:Value)(h : ∀d,(Op.equalIn (d+1) t x y).run P w = .ok b w):(Op.equal t x y).run P w = .ok b w:=h 9999
theorem nilEq_ok {d:TypeDesc}{t:TypeId}{x y x' y':Value}{b:Bool}(hu:P.underlying t=some d)(h:nilEq d x y=some b)(hx:VR ρ x x')(hy:VR ρ y y')(w:World) :
 (Op.equal t x' y').run P w = .ok b w∧∀op u v,(eqGuard op t u v x' y').run P w = .ok () w ∧
   (Go.binOp .eql t x' y').run P w = .ok (.bool b) w∧(Go.binOp .neq t x' y').run P w = .ok (.bool (!b)) w:=by
  have key : ∀x' y',(Op.equal t x' y').run P w = .ok b w→(∀op u v,(eqGuard op t u v x' y').run P w = .ok () w) →
   (Go.binOp .eql t x' y'=do pure (.bool (←Op.equal t x' y')))→(Go.binOp .neq t x' y'=do pure (.bool (!(←Op.equal t x' y')))) →
   (Op.equal t x' y').run P w = .ok b w∧∀op u v,(eqGuard op t u v x' y').run P w = .ok () w ∧
   (Go.binOp .eql t x' y').run P w = .ok (.bool b) w∧(Go.binOp .neq t x' y').run P w = .ok (.bool (!b)) w:=by
    intro x' y' h1 h2 h3 h4
    refine⟨h1,fun op u v=>⟨h2 op u v,?_,?_⟩⟩
    · rw[h3];simp[h1]
    · rw[h4];simp[h1]
  unfold nilEq at h
  split at h<;>first | (cases h) | skip
  · obtain⟨b',k, -,rfl⟩:=hy.ptr_inv;rw[hx.nilptr_inv]
    exact key _ _ (eqD _ _ fun d=>by simp[Op.equalIn,run_underlying hu]) (fun op u v=>by simp[eqGuard]) rfl rfl
  · obtain⟨b',k, -,rfl⟩:=hx.ptr_inv;rw[hy.nilptr_inv]
    exact key _ _ (eqD _ _ fun d=>by simp[Op.equalIn,run_underlying hu]) (fun op u v=>by simp[eqGuard]) rfl rfl
  · obtain⟨z, -,rfl⟩:=hy.iface_inv;rw[hx.nilIface_inv]
    exact key _ _ (eqD _ _ fun d=>by simp[Op.equalIn,run_underlying hu]) (fun op u v=>by simp[eqGuard]) rfl rfl
  · obtain⟨z, -,rfl⟩:=hx.iface_inv;rw[hy.nilIface_inv]
    exact key _ _ (eqD _ _ fun d=>by simp[Op.equalIn,run_underlying hu]) (fun op u v=>by simp[eqGuard]) rfl rfl
  · obtain⟨a',c',rfl, -⟩:=hy.slice_inv;rw[hx.nilslice_inv]
    exact key _ _ (eqD _ _ fun d=>by simp[Op.equalIn,run_underlying hu]) (fun op u v=>by simp[eqGuard]) rfl rfl
  · obtain⟨a',c',rfl, -⟩:=hx.slice_inv;rw[hy.nilslice_inv]
    exact key _ _ (eqD _ _ fun d=>by simp[Op.equalIn,run_underlying hu]) (fun op u v=>by simp[eqGuard]) rfl rfl
  · obtain⟨b',k, -,rfl⟩:=hy.map_inv;rw[hx.nilmap_inv]
    exact key _ _ (eqD _ _ fun d=>by simp[Op.equalIn,run_underlying hu]) (fun op u v=>by simp[eqGuard]) rfl rfl
  · obtain⟨b',k, -,rfl⟩:=hx.map_inv;rw[hy.nilmap_inv]
    exact key _ _ (eqD _ _ fun d=>by simp[Op.equalIn,run_underlying hu]) (fun op u v=>by simp[eqGuard]) rfl rfl
  · rw[hx.nilFunc_inv]
    cases hy with
    | atom h=>simp[Eng.atom]at h
    | func _ _ _=>exact key _ _ (eqD _ _ fun d=>by simp[Op.equalIn,run_underlying hu]) (fun op u v=>by simp[eqGuard]) rfl rfl
    | yield _=>exact key _ _ (eqD _ _ fun d=>by simp[Op.equalIn,run_underlying hu]) (fun op u v=>by simp[eqGuard]) rfl rfl
  · rw[hy.nilFunc_inv]
    cases hx with
    | atom h=>simp[Eng.atom]at h
    | func _ _ _=>exact key _ _ (eqD _ _ fun d=>by simp[Op.equalIn,run_underlying hu]) (fun op u v=>by simp[eqGuard]) rfl rfl
    | yield _=>exact key _ _ (eqD _ _ fun d=>by simp[Op.equalIn,run_underlying hu]) (fun op u v=>by simp[eqGuard]) rfl rfl
theorem foldl_set_ok {off:Nat} : ∀ {l l':List Value},VRs ρ l l'→∀(k:Nat) {cs cs':Array Value},VRs ρ cs.toList cs'.toList →
 VRs ρ ((l.zipIdx k).foldl (fun cs p=>cs.setIfInBounds (off+p.2) p.1) cs).toList ((l'.zipIdx k).foldl (fun cs p=>cs.setIfInBounds (off+p.2) p.1) cs').toList
 | [],_, .nil,_,_,_,h=>h
 | _::_,_, .cons hv ht,k,cs,cs',h=>by
    simp only[List.zipIdx_cons,List.foldl_cons]
    exact foldl_set_ok ht (k+1) (by simpa using h.set hv (off+k))
theorem VR.cells' {v v':Value}(h:VR ρ v v'):VRs ρ v.cells.toList v'.cells.toList:=by
 cases h with
 | agg h=>exact h
 | atom h=>cases v<;>first | exact .cons (.atom h) .nil | simp[Eng.atom]at h
 | ptr h=>exact .cons (.ptr h) .nil
 | slice h hc=>exact .cons (.slice h hc) .nil
 | loose h hn ho=>exact .cons (.loose h hn ho) .nil
 | empty=>exact .cons .empty .nil
 | map h=>exact .cons (.map h) .nil
 | func hf ha hc=>exact .cons (.func hf ha hc) .nil
 | yield h=>exact .cons (.yield h) .nil
 | iface h=>exact .cons (.iface h) .nil
 | tuple h=>exact .cons (.tuple h) .nil
 | sym h e hc ho hb=>rw[hc];exact .cons (.sym h e hc ho hb) .nil
theorem fill_ok {E E':Operand→Value}{place:Nat→Option (Nat × Nat)} : ∀(parts:List (Nat × Operand)) (cells cells' r:Array Value),(∀p∈parts,VR ρ (E p.2) (E' p.2))→VRs ρ cells.toList cells'.toList →
 Instr.fill place cells (parts.map fun p=>(p.1,E p.2))=some r→∃r',Instr.fill place cells' (parts.map fun p=>(p.1,E' p.2))=some r'∧VRs ρ r.toList r'.toList
 | [],cells,cells',r,_,hc,h=>by simp[Instr.fill]at h;subst h;exact⟨cells',by simp[Instr.fill],hc⟩
 | p::parts,cells,cells',r,hE,hc,h=>by
    have hp:=hE p (by simp)
    have hpc:=hp.cells'
    have hl:(E' p.2).cells.size=(E p.2).cells.size:=by simpa using hpc.length
    have hl':cells'.size=cells.size:=by simpa using hc.length
    simp only[List.map_cons,Instr.fill]at h ⊢
    cases hpl:place p.1 with
    | none=>simp[hpl]at h
    | some q =>
       obtain⟨off,size⟩:=q
       simp only[hpl]at h ⊢
       rw[hl,hl']
       split at h
       · cases h
       · rename_i hcond
         rw[if_neg hcond]
         refine fill_ok parts _ _ r (fun q hq=>hE q (by simp[hq])) ?_ h
         have:=foldl_set_ok (off:=off) hpc 0 hc
         rw[←Array.foldl_toList,←Array.foldl_toList,Array.toList_zipIdx,Array.toList_zipIdx]
         exact this
theorem built_ok {E E':Operand→Value}{t:TypeId}{parts:List (Nat × Operand)}{z:Value}{r:Array Value}(hz:(P.info? t).bind (·.zero)=some z)(hf:flat 8 (.agg z.cells)=true)
 (hE : ∀p∈parts,VR ρ (E p.2) (E' p.2)) (h:P.built t (parts.map fun p=>(p.1,E p.2))=some r) : ∃r',P.built t (parts.map fun p=>(p.1,E' p.2))=some r'∧VRs ρ r.toList r'.toList:=by
  have hzz:VRs ρ z.cells.toList z.cells.toList:=by
   cases hc:z.cells with
   | mk l=>rw[hc]at hf;exact VRs.refl_of (VR.of_flat 7) hf
  unfold Program.built at h ⊢
  cases hi:P.info? t with
  | none=>simp[hi]at h
  | some it =>
     rw[hi]at hz
     simp only[Option.bind_some]at hz
     cases hu:P.underlying t with
     | none=>simp[hi,hu]at h
     | some d =>
        cases d<;>try (simp[hi,hu]at h;done)
        case array n e =>
         cases he:P.info? e with
         | none=>simp[hi,hu,hz,he]at h
         | some ie =>
            simp only[hi,hu,hz,he]at h ⊢
            exact fill_ok parts _ _ r hE hzz h
        case struct fields =>
         cases hp:fields.toList.mapM (fun f=>(P.info? f.type).map fun i=>(f.offset,i.size))with
         | none=>simp[hi,hu,hz,hp]at h
         | some places =>
            simp only[hi,hu,hz,hp]at h ⊢
            exact fill_ok parts _ _ r hE hzz h
end
end Go.Eng
set_option linter.unusedSectionVars false
namespace Go.Eng
open Go
section
variable [Base] {P:Program} {ρ:Ren}
theorem structV_ok {E E':Operand→Value}{o:Oper}{v:Value}(h:structV P E o.op=some v)(hE : ∀x∈o.op.operands,VR ρ (E x) (E' x)) :
 ∃v',VR ρ v v'∧∀w,(execOp E' o).run P w = .ok (.value v') w:=by
 obtain⟨dst,op,ty,pos,after,guard⟩:=o
 simp only at h hE
 cases op with
 | move x=>simp[structV]at h;subst h;exact⟨_,hE x (by simp[Op.operands]),fun w=>by simp[execOp]⟩
 | assign x=>simp[structV]at h;subst h;exact⟨_,hE x (by simp[Op.operands]),fun w=>by simp[execOp]⟩
 | pick c a b =>
    have hc:=hE c (by simp[Op.operands]);have ha:=hE a (by simp[Op.operands]);have hb:=hE b (by simp[Op.operands])
    simp only[structV]at h
    cases hv:E c with
    | bool t =>
       rw[hv]at h hc
       simp only[Option.some.injEq]at h
       subst h
       have hc:=hc.bool_inv
       exact⟨if t then E' a else E' b,by cases t<;>simpa,fun w=>by simp[execOp,hc,asBool]⟩
    | _=>simp[hv]at h
 | extract t ix =>
    have ht:=hE t (by simp[Op.operands])
    simp only[structV]at h
    cases hv:E t with
    | tuple vs =>
       obtain⟨vs⟩:=vs
       rw[hv]at h ht
       obtain⟨l',hl,he⟩:=ht.tuple_inv
       obtain⟨v',h1,h2⟩:=hl.get h
       exact⟨v',h2,fun w=>by simp[execOp,he,Instr.extract,h1]⟩
    | _=>simp[hv]at h
 | makeInterface t x =>
    have hx:=hE x (by simp[Op.operands])
    simp only[structV]at h
    cases hu:P.underlying t with
    | none=>simp[hu]at h
    | some d =>
       rw[hu]at h
       have:v = .iface t (E x)∧∀ms,d≠ .interface ms:=by
        cases d<;>simp at h<;>exact⟨h.symm,by simp⟩
       obtain⟨rfl,hd⟩:=this
       refine⟨_, .iface hx,fun w=> ?_⟩
       simp only[execOp,Instr.makeInterface,Sem.run_bind,run_underlying hu,Result.andThen_ok]
       cases d<;>first | rfl | exact absurd rfl (hd _)
 | makeFunc fn first captured =>
    simp only[structV]at h
    split at h
    · rename_i hf
      simp only[Option.some.injEq]at h
      subst h
      refine⟨_, .func hf (VRs.mapV first.toList fun x hx=>hE x (by simp only[Op.operands,Array.mem_append];exact .inl (by simpa using hx)))
       (VRs.mapV captured.toList fun x hx=>hE x (by simp only[Op.operands,Array.mem_append];exact .inr (by simpa using hx))),fun w=> ?_⟩
      have e1:(⟨first.toList.map E'⟩:Array Value)=first.map E':=by simp[←Array.toList_inj]
      have e2:(⟨captured.toList.map E'⟩:Array Value)=captured.map E':=by simp[←Array.toList_inj]
      rw[e1,e2]
      simp[execOp,Instr.makeFunc]
    · cases h
 | nilCheck x =>
    have hx:=hE x (by simp[Op.operands])
    simp only[structV]at h
    split at h
    · rename_i a hv
      simp only[Option.some.injEq]at h;subst h
      refine⟨_,hx,fun w=> ?_⟩
      rw[hv]at hx
      obtain⟨b',k, -,he⟩:=hx.ptr_inv
      simp[execOp,he]
    · rename_i t u hv
      simp only[Option.some.injEq]at h;subst h
      refine⟨_,hx,fun w=> ?_⟩
      rw[hv]at hx
      obtain⟨b', -,he⟩:=hx.iface_inv
      simp[execOp,he]
    · rename_i f a c hv
      simp only[Option.some.injEq]at h;subst h
      refine⟨_,hx,fun w=> ?_⟩
      rw[hv]at hx
      obtain⟨a',c', -, -,he⟩:=hx.func_inv
      simp[execOp,he]
    · cases h
 | field t x f =>
    have hx:=hE x (by simp[Op.operands])
    simp only[structV]at h
    split at h
    · rename_i fs cs hu hv
      rw[hv]at hx
      obtain⟨cs',hc,he⟩:=hx.agg_inv
      split at h
      · rename_i fd hf
        obtain⟨v',h1,h2⟩:=partV_ok h hc
        exact⟨v',h1,fun w=>by simp[execOp,Instr.field,run_underlying hu,hf,he,asAgg,h2]⟩
      · cases h
    · cases h
 | fieldAddr t x f =>
    have hx:=hE x (by simp[Op.operands])
    simp only[structV]at h
    split at h
    · rename_i fs a hu hv
      rw[hv]at hx
      split at h
      · rename_i fd hf
        split at h
        · rename_i i hi
          split at h
          · cases h
          · rename_i hz
            simp only[Option.some.injEq]at h;subst h
            have hp:=hx
            obtain⟨b',k, -,he⟩:=hx.ptr_inv
            rw[he]at hp
            exact⟨_,hp.add _,fun w=>by simp[execOp,Instr.fieldAt,run_underlying hu,hf,he,Instr.sureAddr,fieldPlace,sizeOf,typeInfo,hi,hz]⟩
        · cases h
      · cases h
    · cases h
 | indexAddr t x ix =>
    have hx:=hE x (by simp[Op.operands]);have hix:=hE ix (by simp[Op.operands])
    simp only[structV]at h
    split at h
    · rename_i n elem a k j hu hv hj
      rw[hv]at hx;rw[hj]at hix
      split at h
      · rename_i i hi
        split at h
        · rename_i hb
          simp only[Option.some.injEq]at h;subst h
          have hp:=hx
          obtain⟨b',kk, -,he⟩:=hx.ptr_inv
          rw[he]at hp
          refine⟨_,hp.add _,fun w=> ?_⟩
          simp[execOp,Instr.indexAt,run_underlying hu,hix.int_inv,asIntOf,he,Instr.sureAddr,hb,sizeOf,typeInfo,hi]
        · cases h
      · cases h
    · rename_i elem a n c k j hu hv hj
      rw[hv]at hx;rw[hj]at hix
      split at h
      · rename_i i hi
        split at h
        · rename_i hb
          simp only[Option.some.injEq]at h;subst h
          obtain⟨a',c',he,hs,hx'⟩:=hx.slice_inv
          rcases hx' with⟨ho,hsp,kk,hk, -⟩ | ⟨-,hn, -⟩
          · have hp:VR ρ (.pointer (some a)) (.pointer (some a')):=by
             obtain⟨b,o,s⟩:=a;obtain⟨b',o',s'⟩:=a'
             simp only at ho hsp hk hs
             subst ho hsp hs
             exact .ptr hk
            refine⟨_,hp.add _,fun w=> ?_⟩
            simp[execOp,Instr.indexAt,run_underlying hu,hix.int_inv,asIntOf,he,hb,sizeOf,typeInfo,hi]
          · subst hn;omega
        · cases h
      · cases h
    · cases h
 | slice t x lo hi mx =>
    have hx:=hE x (by simp[Op.operands])
    simp only[structV]at h
    have sub : ∀(z:Option Operand),(∀y,z=some y→VR ρ (E y) (E' y))→∀y k q,z.map E=some y→bnd y k=some q→z.map E'=some y:=by
     intro z hz y k q he hb
     cases z with
     | none=>simp at he
     | some z =>
        simp only[Option.map_some,Option.some.injEq]at he ⊢
        have:=hz z rfl
        rw[he]at this
        cases y<;>simp[bnd]at hb
        exact this.int_inv
    have hlo : ∀y,lo=some y→VR ρ (E y) (E' y):=fun y hy=>hE y (by simp[Op.operands,hy])
    have hhi : ∀y,hi=some y→VR ρ (E y) (E' y):=fun y hy=>hE y (by simp[Op.operands,hy])
    have hmx : ∀y,mx=some y→VR ρ (E y) (E' y):=fun y hy=>hE y (by simp[Op.operands,hy])
    obtain⟨v',h1,h2⟩:=sliceV_ok (vl':=lo.map E') (vh':=hi.map E') (mx':=mx.map E') h hx (fun len cap l hh m hb=>by
     unfold bounds at *
     have hn : ∀z:Option Operand,z.map E=none→z.map E'=none:=fun z hz=>by cases z<;>simp at hz ⊢
     cases e3:mx.map E with
     | none =>
        rw[e3]at hb
        simp only[hn mx e3]at hb ⊢
        cases e2:hi.map E with
        | none =>
           rw[e2]at hb
           simp only[hn hi e2]at hb ⊢
           cases e1:lo.map E with
           | none=>rw[e1]at hb;simp only[hn lo e1]at hb ⊢;exact hb
           | some y =>
              rw[e1]at hb
              cases hy:bnd y len with
              | none=>simp[hy]at hb
              | some q=>simp only[sub lo hlo y len q e1 hy];exact hb
        | some z =>
           rw[e2]at hb
           cases hz:bnd z cap with
           | none=>simp[hz]at hb
           | some r =>
              simp only[sub hi hhi z cap r e2 hz,hz]at hb ⊢
              cases e1:lo.map E with
              | none=>rw[e1]at hb;simp only[hn lo e1]at hb ⊢;exact hb
              | some y =>
                 rw[e1]at hb
                 cases hy:bnd y r with
                 | none=>simp[hy]at hb
                 | some q=>simp only[sub lo hlo y r q e1 hy];exact hb
     | some u =>
        rw[e3]at hb
        cases hu:bnd u cap with
        | none=>simp[hu]at hb
        | some m0 =>
           simp only[sub mx hmx u cap m0 e3 hu,hu]at hb ⊢
           cases e2:hi.map E with
           | none=>simp[e2]at hb
           | some z =>
              rw[e2]at hb
              cases hz:bnd z m0 with
              | none=>simp[hz]at hb
              | some r =>
                 simp only[sub hi hhi z m0 r e2 hz,hz]at hb ⊢
                 cases e1:lo.map E with
                 | none=>rw[e1]at hb;simp only[hn lo e1]at hb ⊢;exact hb
                 | some y =>
                    rw[e1]at hb
                    cases hy:bnd y r with
                    | none=>simp[hy]at hb
                    | some q=>simp only[sub lo hlo y r q e1 hy];exact hb) (by cases mx<;>simp)
    exact⟨v',h1,fun w=>by simp[execOp,h2]⟩
 | typeAssert x xt asserted ok =>
    have hx:=hE x (by simp[Op.operands])
    simp only[structV]at h
    split at h
    · rename_i t u hv
      rw[hv]at hx
      obtain⟨u',hu',he⟩:=hx.iface_inv
      have fails:(match P.info? asserted with
       | some j=>match j.zero with
          | some z=>if flat 8 z then some (Value.tuple ⟨[z, .bool false]⟩)else none
          | none=>none
       | none=>none)=some v→VR ρ v v∧∃z,v = .tuple ⟨[z, .bool false]⟩∧∀w,(zeroValue asserted).run P w = .ok z w:=by
         intro h
         split at h
         · rename_i j hj
           split at h
           · rename_i z hz
             split at h
             · rename_i hf
               simp only[Option.some.injEq]at h;subst h
               exact⟨.tuple (.cons (VR.of_flat 8 z hf) (.cons (.atom rfl) .nil)),z,rfl,fun w=>by simp[zeroValue,typeInfo,hj,hz]⟩
             · cases h
           · cases h
         · cases h
      split at h
      · rename_i want hw
        split at h
        · rename_i i hi
          split at h
          · rename_i hl
            have hm:=missingMethod_none (List.isEmpty_iff.1 hl)
            simp only[Option.some.injEq]at h;subst h
            refine⟨if ok then .tuple ⟨[.iface t u', .bool true]⟩else .iface t u',by
             cases ok
             · exact .iface hu'
             · exact .tuple (.cons (.iface hu') (.cons (.atom rfl) .nil)),fun w=> ?_⟩
            simp[execOp,Instr.typeAssert,run_underlying hw,he,typeInfo,hi,hm]
          · rename_i hl
            obtain⟨m,hm⟩:=missingMethod_some (want:=want) (got:=i.methods) (fun e=>by rw[e]at hl;cases hl)
            split at h
            · rename_i hok
              obtain⟨hf,z,rfl,hz⟩:=fails h
              exact⟨_,hf,fun w=>by simp[execOp,Instr.typeAssert,run_underlying hw,he,typeInfo,hi,hm,hz,hok]⟩
            · cases h
        · cases h
      · rename_i d hni hw
        split at h
        · rename_i hta
          simp only[Option.some.injEq]at h;subst h
          refine⟨if ok then .tuple ⟨[u', .bool true]⟩else u',by
           cases ok
           · exact hu'
           · exact .tuple (.cons hu' (.cons (.atom rfl) .nil)),fun w=> ?_⟩
          simp only[execOp,Instr.typeAssert,Sem.run_bind,run_underlying hw,Result.andThen_ok,he,hta,if_true]
          cases d<;>first | exact absurd rfl (hni _) | simp
        · rename_i hta
          split at h
          · rename_i hok
            obtain⟨hf,z,rfl,hz⟩:=fails h
            refine⟨_,hf,fun w=> ?_⟩
            simp only[execOp,Instr.typeAssert,Sem.run_bind,run_underlying hw,Result.andThen_ok,he,hta,if_false]
            cases d<;>first | exact absurd rfl (hni _) | simp[hz,hok]
          · cases h
      · cases h
    · cases h
 | call c =>
    obtain⟨callee,args,ats⟩:=c
    cases callee with
    | builtin b =>
       obtain⟨args⟩:=args;obtain⟨ats⟩:=ats
       cases b<;>try (simp[structV]at h;done)
       · match args,ats,h with
         | [x],[t],h =>
            have hx:=hE x (by simp[Op.operands,Call.operands])
            simp only[structV]at h
            split at h
            · rename_i e a n c hu hv
              split at h
              · cases h
              · rename_i hf
                simp only[Option.some.injEq]at h;subst h
                rw[hv]at hx
                obtain⟨a',c',he, -,hx'⟩:=hx.slice_inv
                rcases hx' with⟨-, -,k, -,hc, -⟩ | ⟨-, -,hc⟩
                · have:=hc hf
                  subst this
                  exact⟨_, .atom rfl,fun w=>by simp[execOp,resolve,invoke,builtin,Builtin.cap_,run_underlying hu,he]⟩
                · exact absurd hc hf
            · cases h
         | [],_,h=>simp[structV]at h
         | _::_::_,_,h=>simp[structV]at h
         | [_],[],h=>simp[structV]at h
         | [_],_::_::_,h=>simp[structV]at h
       · match args,ats,h with
         | [x],[t],h =>
            have hx:=hE x (by simp[Op.operands,Call.operands])
            simp only[structV]at h
            split at h
            · rename_i e a n c hu hv
              simp only[Option.some.injEq]at h;subst h
              rw[hv]at hx
              obtain⟨a',c',he, -⟩:=hx.slice_inv
              exact⟨_, .atom rfl,fun w=>by simp[execOp,resolve,invoke,builtin,Builtin.len_,run_underlying hu,he]⟩
            · rename_i n e hu
              simp only[Option.some.injEq]at h;subst h
              exact⟨_, .atom rfl,fun w=>by simp[execOp,resolve,invoke,builtin,Builtin.len_,run_underlying hu]⟩
            · cases h
         | [],_,h=>simp[structV]at h
         | _::_::_,_,h=>simp[structV]at h
         | [_],[],h=>simp[structV]at h
         | [_],_::_::_,h=>simp[structV]at h
    | _=>simp[structV]at h
 | binOp op t x y yt =>
    have hx:=hE x (by simp[Op.operands]);have hy:=hE y (by simp[Op.operands])
    cases op<;>try (simp[structV]at h;done)
    · simp only[structV]at h
      cases hu:P.underlying t with
      | none=>simp[hu]at h
      | some d =>
         simp only[hu,Option.map_eq_some_iff]at h
         obtain⟨b,hb,rfl⟩:=h
         refine⟨_, .atom rfl,fun w=> ?_⟩
         obtain⟨-,hn⟩:=nilEq_ok hu hb hx hy w
         obtain⟨h1,h2, -⟩:=hn .eql x y
         simp[execOp,h1,h2]
    · simp only[structV]at h
      cases hu:P.underlying t with
      | none=>simp[hu]at h
      | some d =>
         simp only[hu,Option.map_eq_some_iff]at h
         obtain⟨b,hb,rfl⟩:=h
         refine⟨_, .atom rfl,fun w=> ?_⟩
         obtain⟨-,hn⟩:=nilEq_ok hu hb hx hy w
         obtain⟨h1, -,h3⟩:=hn .neq x y
         simp[execOp,h1,h3]
 | build t parts =>
    simp only[structV]at h
    cases hz:(P.info? t).bind (·.zero)with
    | none=>simp[hz]at h
    | some z =>
       simp only[hz]at h
       split at h
       · rename_i hf
         rw[Option.map_eq_some_iff]at h
         obtain⟨r,hr,rfl⟩:=h
         obtain⟨r',h1,h2⟩:=built_ok (E':=E') hz hf (fun p hp=>hE p.2 (by simp[Op.operands];exact⟨p.1,by simpa using hp⟩)) hr
         refine⟨.agg r',by obtain⟨l⟩:=r;obtain⟨l'⟩:=r';exact .agg h2,fun w=> ?_⟩
         have hb:=run_build (P:=P) w t (parts.map fun(i,x)=>(i,E' x)) r' (by simpa using h1)
         simp[execOp,hb]
       · cases h
 | index t x ix =>
    have hx:=hE x (by simp[Op.operands]);have hix:=hE ix (by simp[Op.operands])
    simp only[structV]at h
    split at h
    · rename_i n e cs k j hu hv hj
      rw[hv]at hx;rw[hj]at hix
      obtain⟨cs',hc,he⟩:=hx.agg_inv
      split at h
      · rename_i i hi
        split at h
        · rename_i hb
          obtain⟨v',h1,h2⟩:=partV_ok h hc
          exact⟨v',h1,fun w=>by simp[execOp,Instr.index,run_underlying hu,hix.int_inv,asIntOf,he,hb,sizeOf,typeInfo,hi,h2]⟩
        · cases h
      · cases h
    · cases h
 | _=>simp[structV]at h
end
end Go.Eng
