import Derived.Test.YtmiekcdkamgknaaGreatDoorR04
set_option linter.unusedSectionVars false
namespace Go.Eng
open Go
section
variable [Base] {P:Program} {ρ:Ren}
section defs
variable (P)
noncomputable def evL (E:Operand→Value) (H:Tr VObj) (o:Oper):Option (Value × Nat) :=
 match o.op with
 | .lookup t x ix ok =>
    match P.underlying t,E x with
    | some (.map kt vt), .map (some b) =>
       match H.get b,P.underlying kt,(P.info? vt).bind (·.zero)with
       | some (.mp es _),some (.int kk),some z =>
          match E ix with
          | .int k n =>
             if flat 8 z then
              match Instr.findNow (.int kk) (.int k n) es 0 with
              | some (some (_,v))=>some (if ok then .tuple ⟨[v, .bool true]⟩else v,b)
              | some none=>some (if ok then .tuple ⟨[z, .bool false]⟩else z,b)
              | none=>none
             else none
          | _=>none
       | _,_,_=>none
    | _,_=>none
 | .convert src dst x =>
    match P.underlying src,P.underlying dst,E x with
    | some (.slice e),some .string, .slice (some ⟨b,of,none⟩) n _ =>
       match P.underlying e,H.get b with
       | some (.int .u8),some (.row cs _ _ _) =>
          if of+n≤cs.length∧((cs.drop of).take n).all (fun v=>match v with | .int .u8 _=>true | _=>false)=true then
           some (.string (((cs.drop of).take n).foldl (fun r v=>match v with | .int _ m=>r.push (UInt8.ofNat m.toNat) | _=>r) ByteArray.empty),b)
          else none
       | _,_=>none
    | _,_,_=>none
 | _=>none
def strCells (s:ByteArray)(n:Nat):List Value:=(s.extract 0 n).data.toList.map fun b=> .int .u8 b.toNat
noncomputable def evX (E:Operand→Value) (H:Tr VObj) (next:Nat) (o:Oper):Option Out :=
 match o.op with
 | .call { callee:= .builtin .append,args:=⟨[s,x]⟩,argTypes:=⟨[t,u]⟩}=>evApp P E H next t u s x
 | .call { callee:= .builtin .copy,args:=⟨[d,x]⟩,argTypes:=⟨[t,_]⟩} =>
    match P.underlying t,E d with
    | some (.slice e), .slice (some ⟨b,of,none⟩) n _ =>
       match P.info? e,H.get b with
       | some i,some (.row cs e' lo fr) =>
          match E x with
          | .slice none 0 _=>some ⟨.int .i64 0,H,next,[]⟩
          | .string s =>
             if fr.1=0∧fr.2=0∧b<1099511627775∧0<n∧of+(strCells s (Nat.min s.size n)).length≤cs.length then
              some ⟨.int .i64 (Nat.min s.size n),Tr.put (some (.row (cs.take of++strCells s (Nat.min s.size n)++cs.drop (of+(strCells s (Nat.min s.size n)).length)) e' lo fr)) wide H b,next,[b]⟩
             else none
          | .slice (some ⟨b2,of2,none⟩) m _ =>
             match H.get b2 with
             | some (.row cs2 _ _ _) =>
                if fr.1=0∧fr.2=0∧b<1099511627775∧of2+Nat.min m n*i.size≤cs2.length∧of+Nat.min m n*i.size≤cs.length∧0<m∧0<n ∧
                 ((cs2.drop of2).take (Nat.min m n*i.size)).all one=true then
                   some ⟨.int .i64 (Nat.min m n),Tr.put (some (.row (cs.take of++(cs2.drop of2).take (Nat.min m n*i.size)++cs.drop (of+((cs2.drop of2).take (Nat.min m n*i.size)).length)) e' lo fr)) wide H b,next,[b]⟩
                else none
             | _=>none
          | _=>none
       | _,_=>none
    | _,_=>none
 | .insert t m k x | .mapUpdate t m k x =>
    match P.underlying t,E m,E k with
    | some (.map kt _), .map (some b), .int kk n =>
       match H.get b,P.underlying kt with
       | some (.mp es clock),some (.int kd) =>
          match Instr.findNow (.int kd) (.int kk n) es 0 with
          | some none=>if b<1099511627775 then some ⟨.tuple #[],Tr.put (some (.mp (es++ [⟨.int kk n,E x,clock⟩]) (clock+1))) wide H b,next,[b]⟩else none
          | _=>none
       | _,_=>none
    | _,_,_=>none
 | .next it true =>
    match E it with
    | .pointer (some ⟨b,0,none⟩) =>
       match H.get b with
       | some (.other (.stringIter s pos)) =>
          if pos<s.size then
           match Utf8.decode s pos with
           | (c,width)=>if b<1099511627775 then some ⟨.tuple ⟨[.bool true,goInt pos, .int .i32 c]⟩,Tr.put (some (.other (.stringIter s (pos+width)))) wide H b,next,[b]⟩else none
          else some ⟨.tuple ⟨[.bool false]⟩,H,next,[]⟩
       | _=>none
    | _=>none
 | _=>none
end defs
theorem MR.findNow {d:TypeDesc}{k:Value} : ∀ {es es':List MapEntry},MR ρ es es'→∀(j:Nat),
 (∀r,Instr.findNow d k es j=some (some r)→∃v',Instr.findNow d k es' j=some (some (r.1,v'))∧VR ρ r.2 v') ∧
 (Instr.findNow d k es j=some none→Instr.findNow d k es' j=some none)
  | _,_, .nil,j=>by simp[Instr.findNow]
  | _,_, .cons (k:=k0) hv ht,j=>by
     have ih:=ht.findNow (d:=d) (k:=k) (j+1)
     simp only[Instr.findNow]
     cases Instr.sameNow d k k0 with
     | none=>simp
     | some t =>
        cases t with
        | true=>simp;exact hv
        | false=>exact ih
theorem run_checkInt {w:World}{kt:TypeId}{kk k:IntKind}{n:Int}(hk:P.underlying kt=some (.int kk))(e:Bool)(d:Nat):(Instr.checkKey e (d+1) kt (.int k n)).run P w = .ok () w:=by
 simp only[Instr.checkKey,Sem.run_bind,run_underlying hk,Result.andThen_ok,Sem.run_pure]
theorem run_mapGet {w:World}{t kt vt:TypeId}{kk k:IntKind}{n:Int}{b:Nat}{es:Array MapEntry}{clock:Nat}{ok:Bool}{r:Option (Nat × Value)}{z:Value}
 (hu:P.underlying t=some (.map kt vt)) (hk:P.underlying kt=some (.int kk)) (hz:(P.info? vt).bind (·.zero)=some z)
 (hb:w.heap[b]? = some (.map es clock)) (hf:Instr.findNow (.int kk) (.int k n) es.toList 0=some r) :
 (Instr.lookup t (.map (some b)) (.int k n) ok).run P w = .ok (match r with | some (_,v)=>if ok then .tuple #[v, .bool true]else v | none=>if ok then .tuple #[z, .bool false]else z) w:=by
  have hc : ∀e,(Instr.checkKey e 10000 kt (.int k n)).run P w = .ok () w:=fun e=>run_checkInt hk e 9999
  have hg:(getObj b).run P w = .ok (.map es clock) w:=by simp[getObj,Sem.run,hb]
  have hzv:(zeroValue vt).run P w = .ok z w:=by
   cases hi:P.info? vt with
   | none=>simp[hi]at hz
   | some i=>simp only[hi,Option.bind_some]at hz;simp[zeroValue,typeInfo,hi,hz]
  simp only[Instr.lookup,Sem.run_bind,run_underlying hu,Result.andThen_ok,hg,Sem.run_pure,hc,Instr.findKey,run_underlying hk,hf]
  cases r with
  | none=>cases ok<;>simp[hzv]
  | some r=>cases ok<;>simp
theorem run_mapPut {w:World}{t kt vt:TypeId}{kk k:IntKind}{n:Int}{b:Nat}{es:Array MapEntry}{clock:Nat}{x:Value}
 (hu:P.underlying t=some (.map kt vt)) (hk:P.underlying kt=some (.int kk))
 (hb:w.heap[b]? = some (.map es clock)) (hf:Instr.findNow (.int kk) (.int k n) es.toList 0=some none) :
 (Instr.mapUpdate t (.map (some b)) (.int k n) x).run P w = .ok () { w with heap:=w.heap.setIfInBounds b (.map (es.push ⟨.int k n,x,clock⟩) (clock+1))}:=by
  have hc : ∀e,(Instr.checkKey e 10000 kt (.int k n)).run P w = .ok () w:=fun e=>run_checkInt hk e 9999
  have hg:(getObj b).run P w = .ok (.map es clock) w:=by simp[getObj,Sem.run,hb]
  simp only[Instr.mapUpdate,Sem.run_bind,run_underlying hu,Result.andThen_ok,hg,hc,Instr.findKey,run_underlying hk,hf,Sem.run_pure,setObj,Sem.run,hb]
theorem bytes_of : ∀ {l l':List Value},VRs ρ l l'→l.all (fun v=>match v with | .int .u8 _=>true | _=>false)=true →
 ∃ns:List Int,l=ns.map (Value.int .u8)∧l'=ns.map (Value.int .u8)
 | [],_, .nil,_=>⟨[],rfl,rfl⟩
 | v::l,_, .cons hv ht,h=>by
    simp only[List.all_cons,Bool.and_eq_true]at h
    obtain⟨ns,h1,h2⟩:=bytes_of ht h.2
    cases v with
    | int k n =>
       cases k<;>simp at h
       exact⟨n::ns,by simp[h1],by simp[h2,hv.int_inv]⟩
    | _=>simp at h
theorem evL_ok {E E':Operand→Value}{H:Tr VObj}{o:Oper}{v:Value}{n:Nat}{w:World}(h:evL P E H o=some (v,n))(hE : ∀x∈o.op.operands,VR ρ (E x) (E' x))
 (hH : ∀ob,H.get n=some ob→HR1 ρ n ob w):(H.get n).isSome∧∃v',VR ρ v v'∧(execOp E' o).run P w = .ok (.value v') w:=by
  obtain⟨dst,op,ty,pos,after,guard⟩:=o
  unfold evL at h
  cases op with
  | lookup t x ix ok =>
     have hx:=hE x (by simp[Op.operands]);have hix:=hE ix (by simp[Op.operands])
     simp only at h
     split at h
     · rename_i kt vt b hu hv
       rw[hv]at hx
       split at h
       · rename_i es clock kk z hg hk hz
         split at h
         · rename_i k m hvi
           rw[hvi]at hix
           split at h
           · rename_i hf
             have key : ∀r,Instr.findNow (.int kk) (.int k m) es 0=some r→n=b→(H.get n).isSome∧∃r',(∀q,r=some q→∃v',r'=some (q.1,v')∧VR ρ q.2 v')∧(r=none→r'=none) ∧
              (execOp E' ⟨dst, .lookup t x ix ok,ty,pos,after,guard⟩).run P w = .ok (.value (match r' with | some (_,v)=>if ok then .tuple #[v, .bool true]else v | none=>if ok then .tuple #[z, .bool false]else z)) w:=by
               intro r hr hn
               subst hn
               obtain⟨b',kb,h1,es',h2,h3⟩:=hH _ hg
               obtain⟨b'',k'',h4,he⟩:=hx.map_inv
               rw[h1]at h4;injection h4 with h4;injection h4 with h4 _;subst h4
               have hfn:=h3.findNow (d:= .int kk) (k:= .int k m) 0
               refine⟨by simp[hg],?_⟩
               cases r with
               | none =>
                  refine⟨none,by simp,by simp,?_⟩
                  have:=run_mapGet (P:=P) (ok:=ok) hu hk hz h2 (hfn.2 hr)
                  simp[execOp,he,hix.int_inv,this]
               | some q =>
                  obtain⟨v',hv',hvr⟩:=hfn.1 q hr
                  refine⟨some (q.1,v'),fun q' hq'=>⟨v',by injection hq' with hq';subst hq';exact⟨rfl,hvr⟩⟩,by simp,?_⟩
                  have:=run_mapGet (P:=P) (ok:=ok) hu hk hz h2 hv'
                  simp[execOp,he,hix.int_inv,this]
             split at h
             · rename_i j u hr
               simp only[Option.some.injEq,Prod.mk.injEq]at h
               obtain⟨rfl,rfl⟩:=h
               obtain⟨hs,r',h1, -,h3⟩:=key _ hr rfl
               obtain⟨v',rfl,hvr⟩:=h1 _ rfl
               refine⟨hs,_,?_,h3⟩
               cases ok
               · exact hvr
               · exact .tuple (.cons hvr (.cons (.atom rfl) .nil))
             · rename_i hr
               simp only[Option.some.injEq,Prod.mk.injEq]at h
               obtain⟨rfl,rfl⟩:=h
               obtain⟨hs,r', -,h2,h3⟩:=key _ hr rfl
               have:=h2 rfl
               subst this
               refine⟨hs,_,?_,h3⟩
               cases ok
               · exact VR.of_flat 8 z hf
               · exact .tuple (.cons (VR.of_flat 8 z hf) (.cons (.atom rfl) .nil))
             · cases h
           · cases h
         · cases h
       · cases h
     · cases h
  | convert src dst' x =>
     have hx:=hE x (by simp[Op.operands])
     simp only at h
     split at h
     · rename_i e b of m c hs hd hv
       rw[hv]at hx
       split at h
       · rename_i cs e' lo fr he hg
         split at h
         · rename_i hc
           simp only[Option.some.injEq,Prod.mk.injEq]at h
           obtain⟨rfl,rfl⟩:=h
           obtain⟨b',k,c',h1,h2,h3,h4⟩:=(hH _ hg).row
           obtain⟨a',c'',hev, -,hx'⟩:=hx.slice_inv
           have hr:=((h3.drop of).take m)
           obtain⟨ns,hn1,hn2⟩:=bytes_of hr hc.2
           refine⟨by simp[hg], .string (ns.foldl (fun r n=>r.push (UInt8.ofNat n.toNat)) ByteArray.empty),?_,?_⟩
           · rw[hn1,List.foldl_map];exact .atom rfl
           · rcases hx' with⟨ho,hsp,k',hk, -⟩ | ⟨ha,hm0, -⟩
             · obtain⟨ab,ao,as⟩:=a'
               simp only at ho hsp hk
               subst ho hsp
               rw[h1]at hk;injection hk with hk;injection hk with hk _;subst hk
               have hl:(loadCells ⟨b',ao,none⟩ m).run P w = .ok (ns.map (Value.int .u8)).toArray w:=by
                have hlen:(ns.map (Value.int .u8)).length=m:=by
                 rw[←hn2];simp only[List.length_take,List.length_drop,Array.length_toList];omega
                have:=run_loadCells_list (P:=P) w ⟨b',ao,none⟩ (ns.map (Value.int .u8)) (fun j u hu=>by
                 rw[←hn2]at hu
                 rw[Addr.add_lit,cell_of_row w b' _ c' e' fr h2]
                 rw[List.getElem?_take]at hu
                 split at hu
                 · rw[List.getElem?_drop,List.getElem?_take]at hu
                   split at hu
                   · simpa using hu
                   · cases hu
                 · cases hu)
                rwa [hlen]at this
               have hb:=run_bytesToString (P:=P) w ⟨b',ao,none⟩ m c'' ns hl
               simp[execOp,hev,run_convert_bytes_string (P:=P) w src dst' e _ m c'' hs he hd,hb]
             · subst hm0
               have hn0:ns = []:=by
                have:(ns.map (Value.int .u8)).length=0:=by rw[←hn1];simp
                simpa using this
               subst hn0
               have hb:=run_bytesToString (P:=P) w a' 0 c'' [] (by simp[loadCells,loadCellsFrom])
               simp[execOp,hev,run_convert_bytes_string (P:=P) w src dst' e _ 0 c'' hs he hd,hb]
         · cases h
       · cases h
     · cases h
  | _=>simp at h
theorem run_copy_rows {w:World}{dT sT ty e:TypeId}{i:TypeInfo}{g of n c:Nat}{a:Addr}{m c2:Nat}{cur:Array Value}{t:TypeId}{cs:List Value}(hu:P.underlying dT=some (.slice e))(hi:P.info? e=some i)
 (hg:w.heap[g]? = some (.cells cur t (0,0))) (hl:cs.length=Nat.min m n*i.size) (hsrc : ∀(j:Nat) v,cs[j]? = some v→w.cell? (a.add j)=some v)
 (hfit:of+cs.length≤cur.size) (h1 : ∀v∈cs,v.oneCell'=true) :
 (Builtin.copy_ #[dT,sT] ty #[.slice (some ⟨g,of,none⟩) n c, .slice (some a) m c2]).run P w =
   .ok (goInt (Nat.min m n)) (w.setRow g (cur.toList.take of++cs++cur.toList.drop (of+cs.length)).toArray):=by
 have hf:=run_firstCells_some (P:=P) w i.size (Nat.min m n) a m c2 cs hl hsrc
 have hst:=run_storeCells_at P g of t cs 0 cur w hg (by simpa using hfit) h1
 simp[Builtin.copy_,run_underlying hu,Builtin.lenOf,sizeOf,typeInfo,hi,hf,hst]
theorem strCells_one (s:ByteArray)(n:Nat) : ∀v∈strCells s n,v.oneCell'=true:=by
 intro v hv
 simp only[strCells,List.mem_map]at hv
 obtain⟨b,_,rfl⟩:=hv
 rfl
theorem strCells_VRs (s:ByteArray)(n:Nat):VRs ρ (strCells s n) (strCells s n) :=
 VRs.refl_of (VR.of_flat 1) (by
  rw[List.all_eq_true]
  intro v hv
  simp only[strCells,List.mem_map]at hv
  obtain⟨b,_,rfl⟩:=hv
  rfl)
theorem run_copy_str {w:World}{dT sT ty e:TypeId}{i:TypeInfo}{g of n c:Nat}{s:ByteArray}{cur:Array Value}{t:TypeId}(hu:P.underlying dT=some (.slice e))(hi:P.info? e=some i)
 (hg:w.heap[g]? = some (.cells cur t (0,0))) (hfit:of+(strCells s (Nat.min s.size n)).length≤cur.size) :
 (Builtin.copy_ #[dT,sT] ty #[.slice (some ⟨g,of,none⟩) n c, .string s]).run P w =
   .ok (goInt (Nat.min s.size n)) (w.setRow g (cur.toList.take of++strCells s (Nat.min s.size n)++cur.toList.drop (of+(strCells s (Nat.min s.size n)).length)).toArray):=by
 have hst:=run_storeCells_at P g of t (strCells s (Nat.min s.size n)) 0 cur w hg (by simpa using hfit) (strCells_one _ _)
 have hf:(Builtin.firstCells i.size (Nat.min s.size n) (.string s)).run P w = .ok ⟨strCells s (Nat.min s.size n)⟩ w:=by
  simp only[Builtin.firstCells,Sem.run_pure,strCells]
  congr 1
  rw[←Array.toList_inj];simp
 simp only[Nat.add_zero]at hst
 simp only[Builtin.copy_,Sem.run_bind,run_underlying hu,Builtin.lenOf,sizeOf,typeInfo,run_program,hi,hf,hst,Sem.run_pure,Result.andThen_ok,List.getElem?_toArray,List.getElem?_cons_zero,List.getElem?_cons_succ]
theorem evX_ok {E E':Operand→Value}{H:Tr VObj}{next:Nat}{o:Oper}{out:Out}{w:World}(h:evX P E H next o=some out)(hE : ∀x∈o.op.operands,VR ρ (E x) (E' x))
 (R:Rel ρ H.get w) (hfree : ∀n,next≤n→n<out.next→ρ n=none) :
 ∃v' w' ρ',VR ρ' out.v v'∧Post ρ H.get w (fun n=>next≤n∧n<out.next) (· ∈ out.dirty) ρ' out.H.get w' ∧
  (∀n,¬(next≤n∧n<out.next)→n∉out.dirty→out.H.get n=H.get n)∧next≤out.next ∧
  ((execOp E' o).run P w = .ok (.value v') w'∨((execOp E' o).run P w = .ok .skip w'∧v'=undef)):=by
   obtain⟨dst,op,ty,pos,after,guard⟩:=o
   have e1:(fun n=>next≤n∧n<next)=fun _=>False:=by funext n;simp only[eq_iff_iff,iff_false];omega
   have e2 : ∀b:Nat,(fun n=>n∈ [b])=fun n=>n=b:=fun b=>by funext n;simp
   have e3:(fun n=>n∈([]:List Nat))=fun _=>False:=by funext n;simp
   have put : ∀(t:TypeId) (m k x:Operand),(match P.underlying t,E m,E k with
    | some (.map kt _), .map (some b), .int kk n =>
       match H.get b,P.underlying kt with
       | some (.mp es clock),some (.int kd) =>
          match Instr.findNow (.int kd) (.int kk n) es 0 with
          | some none=>if b<1099511627775 then some ⟨.tuple #[],Tr.put (some (.mp (es++ [⟨.int kk n,E x,clock⟩]) (clock+1))) wide H b,next,[b]⟩else none
          | _=>none
       | _,_=>none
    | _,_,_=>none)=some out→VR ρ (E m) (E' m)→VR ρ (E k) (E' k)→VR ρ (E x) (E' x) →
    ∃w',Post ρ H.get w (fun n=>next≤n∧n<out.next) (· ∈ out.dirty) ρ out.H.get w'∧(∀n,¬(next≤n∧n<out.next)→n∉out.dirty→out.H.get n=H.get n)∧next≤out.next∧out.v = .tuple #[] ∧
     (Instr.mapUpdate t (E' m) (E' k) (E' x)).run P w = .ok () w':=by
    intro t m k x h hm hk hx
    split at h
    · rename_i kt vt b kk n hu hv hvk
      rw[hv]at hm;rw[hvk]at hk
      split at h
      · rename_i es clock kd hg hkt
        split at h
        · rename_i hf
          split at h
          · rename_i hb40
            simp only[Option.some.injEq]at h;subst h
            obtain⟨b',kb,h1,es',h2,h3⟩:=R.hr b _ hg
            obtain⟨b'',k'',h4,he⟩:=hm.map_inv
            rw[h1]at h4;injection h4 with h4;injection h4 with h4 _;subst h4
            have hrun:=run_mapPut (P:=P) (x:=E' x) hu hkt h2 ((h3.findNow (d:= .int kd) (k:= .int kk n) 0).2 hf)
            rw[he,hk.int_inv]
            have hlt:=R.live (by simp[hg,bl]) h1
            refine⟨_,?_,?_,Nat.le_refl _,rfl,hrun⟩
            · simp only[e1,e2]
              refine Post.write R.lt (by simp[hg,wrO]) h1 ⟨fun j hj=> ?_,by simp,rfl,rfl,rfl⟩ (o:= .mp (es++ [⟨.int kk n,E x,clock⟩]) (clock+1)) (by rw[Tr.get_put' _ _ _ _ hb40,if_pos rfl]) ⟨b',kb,h1,es'++ [⟨.int kk n,E' x,clock⟩],?_,h3.push hx⟩
              · simp[Ne.symm hj]
              · simp[hlt]
            · intro j _ hj
              simp only[List.mem_singleton]at hj
              rw[Tr.get_put' _ _ _ _ hb40,if_neg hj]
          · cases h
        · cases h
      · cases h
    · cases h
   unfold evX at h
   cases op with
   | call c =>
      obtain⟨callee,args,ats⟩:=c
      obtain⟨args⟩:=args;obtain⟨ats⟩:=ats
      cases callee with
      | builtin b =>
         cases b<;>try (simp at h;done)
         · -- append
           match args,ats,h with
           | [s,x],[t,u],h =>
              have hs:=hE s (by simp[Op.operands,Call.operands]);have hx:=hE x (by simp[Op.operands,Call.operands])
              obtain⟨v',w',ρ',p1,p2,p3,p4,p5⟩:=evApp_ok (ty:=ty) h hs hx R hfree
              exact⟨v',w',ρ',p1,p2,p3,p4, .inl (by simp[execOp,resolve,invoke,builtin,p5])⟩
           | [],_,h=>simp at h
           | [_],_,h=>simp at h
           | _::_::_::_,_,h=>simp at h
           | [_,_],[],h=>simp at h
           | [_,_],[_],h=>simp at h
           | [_,_],_::_::_::_,h=>simp at h
         · -- copy
           match args,ats,h with
           | [d,x],[t,u],h =>
              have hd:=hE d (by simp[Op.operands,Call.operands]);have hx:=hE x (by simp[Op.operands,Call.operands])
              simp only at h
              split at h
              · rename_i e b of n c hu hv
                rw[hv]at hd
                split at h
                · rename_i i cs e' lo fr hi hg
                  obtain⟨ad,cd,hde, -,hd'⟩:=hd.slice_inv
                  split at h
                  · rename_i c2 hvx
                    rw[hvx]at hx
                    simp only[Option.some.injEq]at h;subst h
                    refine⟨.int .i64 0,w,ρ, .atom rfl,by simp only[e1,e3];exact Post.refl R,fun _ _ _=>rfl,Nat.le_refl _, .inl ?_⟩
                    simp[execOp,resolve,invoke,builtin,Builtin.copy_,run_underlying hu,hde,hx.nilslice_inv,Builtin.lenOf,Builtin.firstCells,sizeOf,typeInfo,hi,storeCells,goInt]
                  · rename_i s hvx
                    rw[hvx]at hx
                    split at h
                    · rename_i hc
                      obtain⟨f1,f2,hb40,hn0,hl1⟩:=hc
                      obtain⟨fr1,fr2⟩:=fr
                      simp only at f1 f2
                      subst f1 f2
                      simp only[Option.some.injEq]at h;subst h
                      obtain⟨g,k,h1,cur,h2,h3,h4,h5⟩:=R.hr b _ hg
                      rcases hd' with⟨ho,hsp,k',hk, -⟩ | ⟨-,hn, -⟩
                      · obtain⟨ab,ao,as⟩:=ad
                        simp only at ho hsp hk
                        subst ho hsp
                        rw[h1]at hk;injection hk with hk;injection hk with hk _;subst hk
                        have hrun:=run_copy_str (P:=P) (w:=w) (sT:=u) (ty:=ty) (c:=cd) (n:=n) (of:=ao) (s:=s) hu hi h2 (by omega)
                        refine⟨.int .i64 (Nat.min s.size n),w.setRow g (cur.toList.take ao++strCells s (Nat.min s.size n)++cur.toList.drop (ao+(strCells s (Nat.min s.size n)).length)).toArray,ρ, .atom rfl,?_,?_,Nat.le_refl _, .inl ?_⟩
                        · simp only[e1,e2]
                          refine Post.write R.lt (by simp[hg,wrO]) h1 ⟨fun j hj=>setRow_other w g j _ hj,by simp,rfl,rfl,rfl⟩ (by rw[Tr.get_put' _ _ _ _ hb40,if_pos rfl]) ?_
                          exact HR1.splice h1 h2 h3 h4 h5 (strCells_VRs s _) (by omega)
                        · intro j _ hj
                          simp only[List.mem_singleton]at hj
                          rw[Tr.get_put' _ _ _ _ hb40,if_neg hj]
                        · simp[execOp,resolve,invoke,builtin,hde,hx.str_inv,hrun,goInt]
                      · omega
                    · cases h
                  · rename_i b2 of2 m c2 hvx
                    rw[hvx]at hx
                    split at h
                    · rename_i cs2 e2' lo2 fr2 hg2
                      split at h
                      · rename_i hc
                        obtain⟨f1,f2,hb40,hl2,hl1,hm0,hn0,hone⟩:=hc
                        obtain⟨fr1,fr2⟩:=fr
                        simp only at f1 f2
                        subst f1 f2
                        simp only[Option.some.injEq]at h;subst h
                        obtain⟨g,k,h1,cur,h2,h3,h4,h5⟩:=R.hr b _ hg
                        obtain⟨g2,k2,cur2,h6,h7,h8,h9⟩:=(R.hr b2 _ hg2).row
                        obtain⟨ax,cx,hxe, -,hx'⟩:=hx.slice_inv
                        rcases hd' with⟨ho,hsp,k',hk, -⟩ | ⟨-,hn, -⟩
                        · obtain⟨ab,ao,as⟩:=ad
                          simp only at ho hsp hk
                          subst ho hsp
                          rw[h1]at hk;injection hk with hk;injection hk with hk _;subst hk
                          rcases hx' with⟨ho,hsp,k',hk, -⟩ | ⟨-,hm, -⟩
                          · obtain⟨ab2,ao2,as2⟩:=ax
                            simp only at ho hsp hk
                            subst ho hsp
                            rw[h6]at hk;injection hk with hk;injection hk with hk _;subst hk
                            have hr:=((h8.drop ao2).take (Nat.min m n*i.size))
                            have hlen:(((cur2.toList.take cs2.length).drop ao2).take (Nat.min m n*i.size)).length=Nat.min m n*i.size:=by
                             simp only[List.length_take,List.length_drop,Array.length_toList];omega
                            have hlv:=hr.length
                            have hrun:=run_copy_rows (P:=P) (w:=w) (sT:=u) (ty:=ty) (c:=cd) (c2:=cx) (m:=m) (n:=n) (of:=ao) (a:=⟨g2,ao2,none⟩) (cs:=((cur2.toList.take cs2.length).drop ao2).take (Nat.min m n*i.size)) hu hi h2 hlen (fun j u hu=>by
                             rw[Addr.add_lit,cell_of_row w g2 _ cur2 e2' _ h7]
                             rw[List.getElem?_take]at hu
                             split at hu
                             · rw[List.getElem?_drop,List.getElem?_take]at hu
                               split at hu
                               · simpa using hu
                               · cases hu
                             · cases hu) (by omega) (hr.ones hone)
                            refine⟨.int .i64 (Nat.min m n),w.setRow g (cur.toList.take ao++((cur2.toList.take cs2.length).drop ao2).take (Nat.min m n*i.size)++cur.toList.drop (ao+(((cur2.toList.take cs2.length).drop ao2).take (Nat.min m n*i.size)).length)).toArray,ρ, .atom rfl,?_,?_,Nat.le_refl _, .inl ?_⟩
                            · simp only[e1,e2]
                              refine Post.write R.lt (by simp[hg,wrO]) h1 ⟨fun j hj=>setRow_other w g j _ hj,by simp,rfl,rfl,rfl⟩ (by rw[Tr.get_put' _ _ _ _ hb40,if_pos rfl]) ?_
                              exact HR1.splice h1 h2 h3 h4 h5 hr (by omega)
                            · intro j _ hj
                              simp only[List.mem_singleton]at hj
                              rw[Tr.get_put' _ _ _ _ hb40,if_neg hj]
                            · simp[execOp,resolve,invoke,builtin,hde,hxe,hrun,goInt]
                          · omega
                        · omega
                      · cases h
                    · cases h
                  · cases h
                · cases h
              · cases h
           | [],_,h=>simp at h
           | [_],_,h=>simp at h
           | _::_::_::_,_,h=>simp at h
           | [_,_],[],h=>simp at h
           | [_,_],[_],h=>simp at h
           | [_,_],_::_::_::_,h=>simp at h
      | _=>simp at h
   | insert t m k x =>
      obtain⟨w',p1,p2,p3,p4,p5⟩:=put t m k x h (hE m (by simp[Op.operands])) (hE k (by simp[Op.operands])) (hE x (by simp[Op.operands]))
      exact⟨undef,w',ρ,by rw[p4];exact .tuple .nil,p1,p2,p3, .inr ⟨by simp[execOp,p5],rfl⟩⟩
   | mapUpdate t m k x =>
      obtain⟨w',p1,p2,p3,p4,p5⟩:=put t m k x h (hE m (by simp[Op.operands])) (hE k (by simp[Op.operands])) (hE x (by simp[Op.operands]))
      exact⟨undef,w',ρ,by rw[p4];exact .tuple .nil,p1,p2,p3, .inr ⟨by simp[execOp,p5],rfl⟩⟩
   | next it s =>
      have hi:=hE it (by simp[Op.operands])
      cases s with
      | false=>simp at h
      | true =>
         simp only at h
         split at h
         · rename_i b hv
           rw[hv]at hi
           split at h
           · rename_i s pos' hg
             obtain⟨b',kb,h1,h2⟩:=R.hr b _ hg
             obtain⟨b'',k'',h4,he⟩:=hi.ptr_inv
             simp only at h4 he h2
             rw[h1]at h4;injection h4 with h4;injection h4 with h4 _;subst h4
             have hlt:=R.live (by simp[hg,bl]) h1
             have hgo:(getObj b').run P w = .ok (.stringIter s pos') w:=by simp[getObj,Sem.run,h2]
             split at h
             · rename_i hp
               cases hd:Utf8.decode s pos' with
               | mk c width =>
                  simp only[hd]at h
                  split at h
                  · rename_i hb40
                    simp only[Option.some.injEq]at h;subst h
                    refine⟨.tuple ⟨[.bool true,goInt pos', .int .i32 c]⟩,{ w with heap:=w.heap.setIfInBounds b' (.stringIter s (pos'+width))},ρ, .tuple (.cons (.atom rfl) (.cons (.atom rfl) (.cons (.atom rfl) .nil))),?_,?_,Nat.le_refl _, .inl ?_⟩
                    · simp only[e1,e2]
                      refine Post.write R.lt (by simp[hg,wrO]) h1 ⟨fun j hj=> ?_,by simp,rfl,rfl,rfl⟩ (by rw[Tr.get_put' _ _ _ _ hb40,if_pos rfl]) ⟨b',kb,h1,?_⟩
                      · simp[Ne.symm hj]
                      · simp[hlt]
                    · intro j _ hj
                      simp only[List.mem_singleton]at hj
                      rw[Tr.get_put' _ _ _ _ hb40,if_neg hj]
                    · simp[execOp,he,Instr.next,hgo,hp,hd,setObj,Sem.run,h2]
                  · cases h
             · rename_i hp
               simp only[Option.some.injEq]at h;subst h
               refine⟨.tuple ⟨[.bool false]⟩,w,ρ, .tuple (.cons (.atom rfl) .nil),by simp only[e1,e3];exact Post.refl R,fun _ _ _=>rfl,Nat.le_refl _, .inl ?_⟩
               simp[execOp,he,Instr.next,hgo,hp]
           · cases h
         · cases h
   | _=>simp at h
end
end Go.Eng
