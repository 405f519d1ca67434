import Derived.Test.YtmiekcdkamgknaaGreatDoorR03
set_option linter.unusedSectionVars false
namespace Go.Eng
open Go
section
variable [Base] {P:Program} {ρ:Ren}
theorem Post.turn {H H':Nat→Option VObj}{w w':World}{N:Nat}{D:Nat→Prop}{o:VObj}{g:Nat}{k:K}(hn:ρ N=none)(hlt:LT ρ w)
 (hD : ∀d,D d→wrO (H d)=true∧H' d=none) (hg:w.heap.size≤g∨∃d k',D d∧ρ d=some (g,k')) (hgw:g<w'.heap.size)
 (hw:(∀j,j<w.heap.size→j≠g→w'.heap[j]? = w.heap[j]?)∧w.heap.size≤w'.heap.size∧w'.os=w.os∧w'.tape=w.tape∧w'.output=w.output)
 (hH:H' N=some o) (h:HR1 (upd ρ N (g,k)) N o w') :
 Post ρ H w (· = N) D (upd ρ N (g,k)) H' w' where
 ren m hm:=upd_ne _ _ hm
 lt:=⟨Nat.le_trans hlt.1 hw.2.1,fun m b k' hb=>by
  by_cases e:m=N
  · subst e;rw[upd_self]at hb;injection hb with hb;injection hb with hb _;omega
  · rw[upd_ne _ _ e]at hb;have:=hlt.2 m b k' hb;omega⟩
 hr m o' hm ho:=by
  rcases hm with rfl | hm
  · rw[hH]at ho;injection ho with ho;exact ho▸h
  · rw[(hD m hm).2]at ho;cases ho
 new m b k' hm hl hb:=by
  rcases hm with rfl | hm
  · rw[upd_self]at hb;injection hb with hb;injection hb with hb _;subst hb;exact hg
  · rw[(hD m hm).2]at hl;cases hl
 inj m m' b k k' hm hm' hl hl' _ _:=by
  rcases hm with rfl | hm
  · rcases hm' with rfl | hm'
    · rfl
    · rw[(hD m' hm').2]at hl';cases hl'
  · rw[(hD m hm).2]at hl;cases hl
 frame j hj hd:=by
  refine hw.1 j hj fun e=> ?_
  rcases hg with hg | ⟨d,k',hd',he⟩
  · omega
  · exact hd d k' hd' (e▸he)
 live d hd:=(hD d hd).1
 free m hm:=hm▸hn
 os:=hw.2.2.1
 tape:=hw.2.2.2.1
 output:=hw.2.2.2.2
 size:=hw.2.1
theorem append_any {w:World}{t e ty:TypeId}{i:TypeInfo}{z:Value}(ht:P.underlying t=some (.slice e))(hi:P.info? e=some i)(hz:i.zero=some z)(hzs:z.cells.size=i.size)
 {g n c:Nat} {cur:Array Value} (hg:w.heap[g]? = some (.cells cur e (0,0))) (hnc:n≤c) (_hcm:c≤maxLen) (hcs:cur.size=c*i.size)
 {a:Addr} {m c2:Nat} {news:List Value} (hl:news.length=m*i.size) (hnews : ∀(j:Nat) u,news[j]? = some u→w.cell? (a.add j)=some u) (h1 : ∀u∈news,u.oneCell'=true)
 (h63:n+m≤maxLen) (hby:(n+m)*i.bytes≤140737488355328) :
 (n+m≤c∧(Builtin.append_ #[t,t] ty #[.slice (some ⟨g,0,none⟩) n c, .slice (some a) m c2]).run P w =
   .ok (.slice (some ⟨g,0,none⟩) (n+m) c) (w.setRow g (cur.toList.take (n*i.size)++news++cur.toList.drop (n*i.size+news.length)).toArray)) ∨
 (∃cap rest,n+m≤cap∧cap≤maxLen∧(Builtin.append_ #[t,t] ty #[.slice (some ⟨g,0,none⟩) n c, .slice (some a) m c2]).run P w =
   .ok (.slice (some ⟨w.heap.size,0,none⟩) (n+m) cap) (w.drew.alloc (.cells ((cur.toList.take (n*i.size)).toArray++news.toArray++rest) e))∧rest.size=(cap-(n+m))*i.size):=by
 have hn:n*i.size≤c*i.size:=Nat.mul_le_mul_right _ hnc
 by_cases hroom:n+m≤c
 · refine .inl ⟨hroom,?_⟩
   refine run_append_room (P:=P) w t ty e i ht hi g n c cur hg a m c2 news hl hnews h1 hroom ?_
   rw[hl,hcs,←Nat.add_mul];exact Nat.mul_le_mul_right _ hroom
 · refine .inr ⟨grownCap w (n+m) c e,Builtin.zeroCells z.cells (grownCap w (n+m) c e-(n+m)),grownCap_ge _ _ _ _,grownCap_le_maxLen _ _ _ _ h63,?_,?_⟩
   · refine run_append_grow (P:=P) w t ty e i z ht hi hz ⟨g,0,none⟩ n c (cur.toList.take (n*i.size)) ?_ ?_ a m c2 news hl hnews (by omega) ?_ (growslice_fits (by omega) hby)
     · simp;omega
     · intro j v hv
       rw[Addr.add_lit,Nat.zero_add,cell_of_row w g j cur e (0,0) hg]
       rw[List.getElem?_take]at hv
       split at hv
       · simpa using hv
       · cases hv
     · simp only[maxLen]at h63;omega
   · rw[size_zeroCells,hzs]
section defs
variable (P)
noncomputable def newsV (E:Operand→Value) (H:Tr VObj) (size:Nat) (x:Operand):Option (Nat × List Value) :=
 match E x with
 | .slice (some ⟨b,of,none⟩) m _ =>
    match H.get b with
    | some (.row cs _ _ _)=>if of+m*size≤cs.length∧((cs.drop of).take (m*size)).all one=true then some (m,(cs.drop of).take (m*size))else none
    | _=>none
 | _=>none
def rowFits (size n c len:Nat)(lo:Option Nat):Bool :=
 if c=far then lo == some size else lo.isNone && decide (n≤c) && decide (c≤maxLen) && (len == c*size)
noncomputable def evApp (E:Operand→Value) (H:Tr VObj) (next:Nat) (t u:TypeId) (s x:Operand):Option Out :=
 match P.underlying t with
 | some (.slice e) =>
    match P.info? e with
    | some i =>
       match i.zero with
       | some z =>
          if z.cells.size=i.size∧0<i.size∧next<1099511627775∧flat 8 (.agg z.cells)=true then
           if u=t then
            match E x with
            | .slice _ 0 _ =>
               match E s with
               | .slice a n c=>if n≤c then some ⟨.slice a n c,H,next,[]⟩else none
               | _=>none
            | _ =>
            match newsV E H i.size x with
            | some (m,news) =>
               if 0<m then
                match E s with
                | .slice none 0 0 =>
                   if m≤maxLen∧m*i.bytes≤140737488355328 then some ⟨.slice (some ⟨next,0,none⟩) m far,Tr.put (some (.row news e (some i.size) (0,0))) wide H next,next+1,[]⟩else none
                | .slice (some ⟨b,0,none⟩) n c =>
                   match H.get b with
                   | some (.row cs e' lo fr) =>
                      if e'=e∧fr.1=0∧fr.2=0∧b<next∧n+m≤maxLen∧(n+m)*i.bytes≤140737488355328∧n*i.size≤cs.length ∧
                       rowFits i.size n c cs.length lo=true then
                       some ⟨.slice (some ⟨next,0,none⟩) (n+m) far,Tr.put (some (.row (cs.take (n*i.size)++news) e (some i.size) (0,0))) wide (Tr.put none wide H b) next,next+1,[b]⟩
                      else if e'=e∧fr.1=0∧fr.2=0∧b<next∧n+m≤maxLen∧(n+m)*i.bytes≤140737488355328∧n*i.size≤cs.length∧n=c∧c≠far then
                       some ⟨.slice (some ⟨next,0,none⟩) (n+m) far,Tr.put (some (.row (cs.take (n*i.size)++news) e (some i.size) (0,0))) wide H next,next+1,[]⟩
                      else none
                   | _=>none
                | _=>none
               else none
            | none=>none
           else
            match P.underlying u,E s,E x with
            | some (.int _), .slice none 0 0, .int _ k =>
               if 0<k∧k.toNat≤65536∧k.toNat*i.bytes≤140737488355328 then
                some ⟨.slice (some ⟨next,0,none⟩) k.toNat far,Tr.put (some (.row ((List.range (k.toNat*z.cells.size)).map fun j=>z.cells.toList.getD (j % z.cells.toList.length) default) e (some i.size) (0,0))) wide H next,next+1,[]⟩
               else none
            | _,_,_=>none
          else none
       | none=>none
    | none=>none
 | _=>none
end defs
theorem newsV_ok {E E':Operand→Value}{H:Tr VObj}{size m:Nat}{x:Operand}{news:List Value}{w:World}(h:newsV E H size x=some (m,news))(hx:VR ρ (E x) (E' x))(R:Rel ρ H.get w)(hm:0<m) :
 ∃a c news',E' x = .slice (some a) m c∧VRs ρ news news'∧news'.length=m*size∧(∀(j:Nat) u,news'[j]? = some u→w.cell? (a.add j)=some u)∧∀u∈news',u.oneCell'=true:=by
 unfold newsV at h
 split at h
 · rename_i b of m' c' hv
   rw[hv]at hx
   split at h
   · rename_i cs e lo fr hg
     split at h
     · rename_i hc
       simp only[Option.some.injEq,Prod.mk.injEq]at h
       obtain⟨rfl,rfl⟩:=h
       obtain⟨a',c'',he, -,hx'⟩:=hx.slice_inv
       obtain⟨b',k,c0,h1,h2,h3,h4⟩:=(R.hr b _ hg).row
       rcases hx' with⟨ho,hsp,k',hk, -⟩ | ⟨-,hn, -⟩
       · obtain⟨ab,ao,as⟩:=a'
         simp only at ho hsp hk
         subst ho hsp
         rw[h1]at hk
         injection hk with hk;injection hk with hk _;subst hk
         have hr:=((h3.drop ao).take (m'*size))
         refine⟨_,_,((c0.toList.take cs.length).drop ao).take (m'*size),he,hr,?_,?_,hr.ones hc.2⟩
         · simp only[List.length_take,List.length_drop,Array.length_toList];omega
         · intro j u hu
           rw[Addr.add_lit,cell_of_row w b' _ c0 e fr h2]
           rw[List.getElem?_take]at hu
           split at hu
           · rw[List.getElem?_drop,List.getElem?_take]at hu
             split at hu
             · simpa using hu
             · cases hu
           · cases hu
       · omega
     · cases h
   · cases h
 · cases h
theorem VR.news {k n c:Nat}{b:Nat}(h:ρ b=some (k,kn c))(hn:n≤c):VR ρ (.slice (some ⟨b,0,none⟩) n far) (.slice (some ⟨k,0,none⟩) n c):= .loose h hn fun _=>rfl
theorem HR1.loose {w:World}{N g cap:Nat}{cs cs' rest:List Value}{e size:Nat}(h:VRs (upd ρ N (g,kn cap)) cs cs')(hw:w.heap[g]? = some (.cells ⟨cs'++rest⟩ e (0,0)))
 (hs:(cs'++rest).length=cap*size) (hc:cap≤maxLen):HR1 (upd ρ N (g,kn cap)) N (.row cs e (some size) (0,0)) w:=by
  have hl:=h.length
  refine⟨g,kn cap,upd_self _ _ _,⟨cs'++rest⟩,hw,?_,?_,?_⟩
  · rw[←hl,List.take_left];exact h
  · simp;omega
  · exact⟨by simpa using hs,rfl,hc⟩
theorem run_append_zeros {w:World}{t u e ty:TypeId}{i:TypeInfo}{z:Value}{ki kj:IntKind}{k:Int}(ht:P.underlying t=some (.slice e))(hu:P.underlying u=some (.int kj))
 (hi:P.info? e=some i) (hz:i.zero=some z) (hs:0<i.size) (h0:0<k) (h1:k.toNat≤65536) (hb:k.toNat*i.bytes≤140737488355328) :
 (Builtin.append_ #[t,u] ty #[.slice none 0 0, .int ki k]).run P w = .ok (.slice (some ⟨w.heap.size,0,none⟩) k.toNat (grownCap w k.toNat 0 e))
   (w.drew.alloc (.cells (Builtin.zeroCells z.cells k.toNat++Builtin.zeroCells z.cells (grownCap w k.toNat 0 e-k.toNat)) e)):=by
  have w1:IntKind.i64.wrap k=k:=IntWalk.i64_in _ ⟨by omega,by omega⟩
  have n1: ¬k<0:=by omega
  have n2: ¬(281474976710656<k*(i.bytes:Int)):=by
   have h:((k.toNat*i.bytes:Nat):Int)≤140737488355328:=Int.ofNat_le.2 hb
   rw[Int.natCast_mul,Int.toNat_of_nonneg (by omega)]at h
   omega
  have n3: ¬k.toNat*i.size=0:=Nat.pos_iff_ne_zero.1 (Nat.mul_pos (by omega) hs)
  have n4: ¬(k≤0):=by omega
  have n5: ¬(9223372036854775807<max k 0):=by rw[Int.max_eq_left (by omega)];omega
  have n6: ¬(281474976710656<Builtin.nextslicecap k.toNat 0*i.bytes):=by rw[nextslicecap_zero (by omega)];omega
  simp[Builtin.append_,run_underlying ht,run_underlying hu,sizeOf,typeInfo,zeroValue,hi,hz,asInt,asIntOf,w1,n1,n2,n3,n4,n5,n6,Question.forced,run_firstCells_none,newRow,grownCap]
theorem evApp_ok {E E':Operand→Value}{H:Tr VObj}{next:Nat}{t u ty:TypeId}{s x:Operand}{out:Out}{w:World}(h:evApp P E H next t u s x=some out)
 (hs:VR ρ (E s) (E' s)) (hx:VR ρ (E x) (E' x)) (R:Rel ρ H.get w) (hfree : ∀n,next≤n→n<out.next→ρ n=none) :
 ∃v' w' ρ',VR ρ' out.v v'∧Post ρ H.get w (fun n=>next≤n∧n<out.next) (· ∈ out.dirty) ρ' out.H.get w' ∧
  (∀n,¬(next≤n∧n<out.next)→n∉out.dirty→out.H.get n=H.get n)∧next≤out.next ∧
  (Builtin.append_ #[t,u] ty #[E' s,E' x]).run P w = .ok v' w':=by
  have ec : ∀n:Nat,(next≤n∧n<next+1)↔n=next:=fun n=>by omega
  unfold evApp at h
  split at h
  · rename_i e hu
    split at h
    · rename_i i hi
      split at h
      · rename_i z hz
        split at h
        · rename_i hc
          obtain⟨hzs,hs0,h40,hzf⟩:=hc
          split at h
          · rename_i hut
            subst hut
            split at h
            · -- nothing is appended
              rename_i a0 c0 hv
              rw[hv]at hx
              split at h
              · rename_i a n c hvs
                rw[hvs]at hs
                split at h
                · rename_i hnc
                  simp only[Option.some.injEq]at h;subst h
                  have hx0 : ∃a1 c1,E' x = .slice a1 0 c1:=by
                   cases a0 with
                   | none=>exact⟨_,_,hx.nilslice_inv⟩
                   | some a0=>obtain⟨a',c',he, -⟩:=hx.slice_inv;exact⟨_,_,he⟩
                  obtain⟨a1,c1,hx0⟩:=hx0
                  have hs0' : ∃a2 c2,E' s = .slice a2 n c2∧n≤c2:=by
                   cases a with
                   | none=>exact⟨_,_,hs.nilslice_inv,hnc⟩
                   | some a =>
                      obtain⟨a',c',he, -,hs'⟩:=hs.slice_inv
                      refine⟨_,_,he,?_⟩
                      rcases hs' with⟨-, -,k, -,h5,h6⟩ | ⟨-,h5, -⟩
                      · by_cases hf:c=far
                        · exact(h6 hf).1
                        · rw[h5 hf];exact hnc
                      · omega
                  obtain⟨a2,c2,hs0',hn2⟩:=hs0'
                  refine⟨.slice a2 n c2,w,ρ,by rw[hs0']at hs;exact hs,?_,fun _ _ _=>rfl,Nat.le_refl _,?_⟩
                  · have e1:(fun m=>next≤m∧m<next)=fun _=>False:=by funext m;simp only[eq_iff_iff,iff_false];omega
                    have e2:(fun m=>m∈([]:List Nat))=fun _=>False:=by funext m;simp
                    simp only[e1,e2]
                    exact Post.refl R
                  · have hf:(Builtin.firstCells i.size 0 (.slice a1 0 c1)).run P w = .ok #[] w:=by
                     cases a1<;>simp[Builtin.firstCells,loadCells,loadCellsFrom]
                    rw[hx0,hs0']
                    cases a2<;>simp[Builtin.append_,run_underlying hu,sizeOf,typeInfo,hi,Builtin.lenOf,hn2,hf,storeCells]
                · cases h
              · cases h
            · rename_i hnz
              split at h
              · rename_i m news hnews
                split at h
                · rename_i hm
                  obtain⟨a,c2,news',hxe,hnr,hnl,hnc,hno⟩:=newsV_ok hnews hx R hm
                  split at h
                  · rename_i hvs
                    rw[hvs]at hs
                    have hse:=hs.nilslice_inv
                    split at h
                    · rename_i hb
                      simp only[Option.some.injEq]at h;subst h
                      have hn:=hfree next (Nat.le_refl _) (Nat.lt_succ_self _)
                      have hr:=run_append_nil (P:=P) w u ty e i z hu hi hz a m c2 news' hnl hnc hm (by simp only[maxLen]at hb;omega) (by omega)
                      have hcap:=grownCap_ge w m 0 e
                      refine⟨_,_,upd ρ next (w.heap.size,kn (grownCap w m 0 e)), .news (upd_self _ _ _) hcap,?_,?_,Nat.le_succ _,by rw[hxe,hse];exact hr⟩
                      · simp only[ec]
                        refine Post.turn hn R.lt (fun d hd=>by simp at hd) (.inl (Nat.le_refl _)) (by simp) ⟨fun j hj _=>old_alloc w.drew _ j hj,by simp,rfl,rfl,rfl⟩
                         (by rw[Tr.get_put' _ _ _ _ h40,if_pos rfl]) ?_
                        refine HR1.loose (rest:=(Builtin.zeroCells z.cells (grownCap w m 0 e-m)).toList) (hnr.mono (upd_sub hn)) ?_ ?_ (grownCap_le_maxLen _ _ _ _ hb.1)
                        · rw[show w.heap.size=w.drew.heap.size from rfl,heap_alloc_new]
                          congr 2
                          apply Array.toList_inj.1;simp
                        · simp only[List.length_append,Array.length_toList,size_zeroCells,hzs,hnl,←Nat.add_mul];congr 1;omega
                      · intro n hn' _
                        rw[Tr.get_put' _ _ _ _ h40,if_neg (fun e=>hn' ((ec n).2 e))]
                    · cases h
                  · rename_i b n c hvs
                    rw[hvs]at hs
                    split at h
                    · rename_i cs e' lo fr hg
                      split at h
                      · rename_i hb
                        obtain⟨rfl,f1,f2,hbn,h63,hby,hncs,hlo⟩:=hb
                        obtain⟨fr1,fr2⟩:=fr
                        simp only at f1 f2
                        subst f1 f2
                        simp only[Option.some.injEq]at h;subst h
                        have hn:=hfree next (Nat.le_refl _) (Nat.lt_succ_self _)
                        obtain⟨g,k,h1,cur,h2,h3,h4,h5⟩:=R.hr b _ hg
                        obtain⟨a',c',he, -,hs'⟩:=hs.slice_inv
                        have hs'':a'=⟨g,0,none⟩∧n≤c'∧c'≤maxLen∧cur.size=c'*i.size∧(c=far→c'=k.n):=by
                         rcases hs' with⟨ho,hsp,k',hk,h7,h8⟩ | ⟨ha,hn0,hcf⟩
                         · obtain⟨ab,ao,as⟩:=a'
                           simp only at ho hsp hk
                           subst ho hsp
                           rw[h1]at hk
                           injection hk with hk;injection hk with hk hk';subst hk hk'
                           by_cases hf:c=far
                           · simp only[rowFits,hf,if_true,beq_iff_eq]at hlo
                             subst hlo
                             obtain⟨h9,h10⟩:=h8 hf
                             have:=h10 rfl
                             subst this
                             exact⟨rfl,h9,h5.2.2,h5.1,fun _=>rfl⟩
                           · simp only[rowFits,hf,if_false,Bool.and_eq_true,Option.isNone_iff_eq_none,decide_eq_true_eq,beq_iff_eq]at hlo
                             obtain⟨⟨⟨rfl,l1⟩,l2⟩,l3⟩:=hlo
                             have:=h7 hf
                             subst this
                             exact⟨rfl,l1,l2,h5.trans l3,fun e=>absurd e hf⟩
                         · injection ha with hbf
                           subst hbf
                           have:=R.lt.2 far g k h1
                           simp[far]at h40 hbn
                           omega
                        obtain⟨rfl,q1,q2,q3, -⟩:=hs''
                        have hmid:VRs ρ (cs.take (n*i.size)) (cur.toList.take (n*i.size)):=by
                         have:=h3.take (n*i.size)
                         rwa [List.take_take,Nat.min_eq_left hncs]at this
                        have hb40:b<1099511627775:=by omega
                        have hbn':b≠next:=by omega
                        have hlen1:(cur.toList.take (n*i.size)).length=n*i.size:=by
                         have:n*i.size≤c'*i.size:=Nat.mul_le_mul_right _ q1
                         simp;omega
                        have hget : ∀j,(Tr.put (some (VObj.row (cs.take (n*i.size)++news) e' (some i.size) (0,0))) wide (Tr.put none wide H b) next).get j =
                         if j=next then some (VObj.row (cs.take (n*i.size)++news) e' (some i.size) (0,0))else if j=b then none else H.get j:=fun j=>by
                         rw[Tr.get_put' _ _ _ _ h40,Tr.get_put' _ _ _ _ hb40]
                        have hD : ∀d,d∈ [b]→wrO (H.get d)=true∧(Tr.put (some (VObj.row (cs.take (n*i.size)++news) e' (some i.size) (0,0))) wide (Tr.put none wide H b) next).get d=none:=fun d hd=>by
                         simp only[List.mem_singleton]at hd
                         subst hd
                         rw[hget,if_neg hbn',if_pos rfl]
                         exact⟨by simp[hg,wrO],rfl⟩
                        have rest : ∀n_1,¬(next≤n_1∧n_1<next+1)→n_1∉ [b]→(Tr.put (some (VObj.row (cs.take (n*i.size)++news) e' (some i.size) (0,0))) wide (Tr.put none wide H b) next).get n_1=H.get n_1:=fun j hj hj'=>by
                         rw[hget,if_neg (fun e=>hj ((ec j).2 e)),if_neg (by simpa using hj')]
                        rcases append_any (P:=P) (ty:=ty) hu hi hz hzs h2 q1 q2 q3 hnl hnc hno h63 hby with⟨hroom,hr⟩ | ⟨cap,more,hc1,hc2,hr,hms⟩
                        · refine⟨_,_,upd ρ next (g,kn (c')), .news (upd_self _ _ _) hroom,?_,rest,Nat.le_succ _,by rw[hxe,he];exact hr⟩
                          simp only[ec]
                          refine Post.turn hn R.lt hD (.inr ⟨b,k,by simp,h1⟩) (by rw[size_setRow];exact R.live (by simp[hg,bl]) h1) ⟨fun j _ hj=>setRow_other w g j _ hj,by simp,rfl,rfl,rfl⟩ (by rw[hget,if_pos rfl]) ?_
                          refine HR1.loose (cs':=cur.toList.take (n*i.size)++news') (rest:=cur.toList.drop (n*i.size+news'.length)) ((hmid.append hnr).mono (upd_sub hn)) ?_ ?_ q2
                          · rw[setRow_heap w g cur _ e' (0,0) h2]
                          · have:n*i.size+m*i.size≤c'*i.size:=by rw[←Nat.add_mul];exact Nat.mul_le_mul_right _ hroom
                            simp only[List.length_append,hlen1,hnl,List.length_drop,Array.length_toList];omega
                        · refine⟨_,_,upd ρ next (w.heap.size,kn (cap)), .news (upd_self _ _ _) hc1,?_,rest,Nat.le_succ _,by rw[hxe,he];exact hr⟩
                          simp only[ec]
                          refine Post.turn hn R.lt hD (.inl (Nat.le_refl _)) (by simp) ⟨fun j hj _=>old_alloc w.drew _ j hj,by simp,rfl,rfl,rfl⟩ (by rw[hget,if_pos rfl]) ?_
                          refine HR1.loose (cs':=cur.toList.take (n*i.size)++news') (rest:=more.toList) ((hmid.append hnr).mono (upd_sub hn)) ?_ ?_ hc2
                          · rw[show w.heap.size=w.drew.heap.size from rfl,heap_alloc_new]
                            congr 2
                            apply Array.toList_inj.1;simp
                          · simp only[List.length_append,hlen1,hnl,Array.length_toList,hms,←Nat.add_mul];congr 1;omega
                      · split at h
                        · rename_i hb
                          obtain⟨rfl,f1,f2,hbn,h63,hby,hncs,hcn,hcf⟩:=hb
                          obtain⟨fr1,fr2⟩:=fr
                          simp only at f1 f2
                          subst f1 f2
                          subst hcn
                          simp only[Option.some.injEq]at h;subst h
                          have hn:=hfree next (Nat.le_refl _) (Nat.lt_succ_self _)
                          obtain⟨g,k,h1,cur,h2,h3,h4,h5⟩:=R.hr b _ hg
                          obtain⟨a',c',he, -,hs'⟩:=hs.slice_inv
                          have hs'':a'=⟨g,0,none⟩∧c'=n:=by
                           rcases hs' with⟨ho,hsp,k',hk,h7,h8⟩ | ⟨ha,hn0,hcf'⟩
                           · obtain⟨ab,ao,as⟩:=a'
                             simp only at ho hsp hk
                             subst ho hsp
                             rw[h1]at hk
                             injection hk with hk;injection hk with hk hk';subst hk hk'
                             have:=h7 hcf
                             subst this
                             exact⟨rfl,rfl⟩
                           · injection ha with hbf
                             subst hbf
                             have:=R.lt.2 far g k h1
                             simp[far]at h40 hbn
                             omega
                          obtain⟨rfl,rfl⟩:=hs''
                          have hmid:VRs ρ (cs.take (c'*i.size)) (cur.toList.take (c'*i.size)):=by
                           have:=h3.take (c'*i.size)
                           rwa [List.take_take,Nat.min_eq_left hncs]at this
                          have hlen1:(cur.toList.take (c'*i.size)).length=c'*i.size:=by
                           rw[hmid.length,List.length_take]
                           omega
                          have hr:=run_append_grow (P:=P) w u ty e' i z hu hi hz ⟨g,0,none⟩ c' c' (cur.toList.take (c'*i.size)) hlen1 (by
                           intro j v hv
                           rw[Addr.add_lit,Nat.zero_add,cell_of_row w g j cur e' (0,0) h2]
                           rw[List.getElem?_take]at hv
                           split at hv
                           · simpa using hv
                           · cases hv) a m c2 news' hnl hnc (by omega) (by simp only[maxLen]at h63;omega) (growslice_fits (by omega) hby)
                          have hge:c'+m≤grownCap w (c'+m) c' e':=grownCap_ge _ _ _ _
                          refine⟨_,_,upd ρ next (w.heap.size,kn (grownCap w (c'+m) c' e')), .news (upd_self _ _ _) (grownCap_ge _ _ _ _),?_,?_,Nat.le_succ _,by rw[hxe,he];exact hr⟩
                          · simp only[ec]
                            refine Post.turn hn R.lt (fun d hd=>by simp at hd) (.inl (Nat.le_refl _)) (by simp) ⟨fun j hj _=>old_alloc w.drew _ j hj,by simp,rfl,rfl,rfl⟩
                             (by rw[Tr.get_put' _ _ _ _ h40,if_pos rfl]) ?_
                            refine HR1.loose (cs':=cur.toList.take (c'*i.size)++news') (rest:=(Builtin.zeroCells z.cells (grownCap w (c'+m) c' e'-(c'+m))).toList) ((hmid.append hnr).mono (upd_sub hn)) ?_ ?_ (grownCap_le_maxLen _ _ _ _ h63)
                            · rw[show w.heap.size=w.drew.heap.size from rfl,heap_alloc_new]
                              congr 2
                              apply Array.toList_inj.1;simp
                            · simp only[List.length_append,hlen1,hnl,Array.length_toList,size_zeroCells,hzs,←Nat.add_mul];congr 1;omega
                          · intro n hn' _
                            rw[Tr.get_put' _ _ _ _ h40,if_neg (fun e=>hn' ((ec n).2 e))]
                        · cases h
                    · cases h
                  · cases h
                · cases h
              · cases h
          · split at h
            · rename_i kk k hu2 hvs hvx
              split at h
              · rename_i hb
                rename_i ki
                rw[hvs]at hs
                rw[hvx]at hx
                simp only[Option.some.injEq]at h;subst h
                obtain⟨b1,b2,b3⟩:=hb
                have hn:=hfree next (Nat.le_refl _) (Nat.lt_succ_self _)
                have hr:=run_append_zeros (P:=P) (w:=w) (ty:=ty) (ki:=kk) hu hu2 hi hz hs0 b1 b2 b3
                have hcap:=grownCap_ge w k.toNat 0 e
                have hzz:VRs ρ z.cells.toList z.cells.toList:=flat_agg hzf
                have hze:Builtin.zeroCells z.cells k.toNat=⟨(List.range (k.toNat*z.cells.size)).map fun j=>z.cells.toList.getD (j % z.cells.toList.length) default⟩:=by
                 apply Array.toList_inj.1
                 simp only[Builtin.zeroCells,Array.toList_map,Array.toList_range]
                 refine List.map_congr_left fun j _=> ?_
                 rw[getElem!_def,List.getD_eq_getElem?_getD]
                 simp only[Array.length_toList,Array.getElem?_toList]
                 cases z.cells[j % z.cells.size]?<;> rfl
                rw[hze]at hr
                refine⟨_,_,upd ρ next (w.heap.size,kn (grownCap w k.toNat 0 e)), .news (upd_self _ _ _) hcap,?_,?_,Nat.le_succ _,by rw[hs.nilslice_inv,hx.int_inv];exact hr⟩
                · simp only[ec]
                  refine Post.turn hn R.lt (fun d hd=>by simp at hd) (.inl (Nat.le_refl _)) (by simp) ⟨fun j hj _=>old_alloc w.drew _ j hj,by simp,rfl,rfl,rfl⟩
                   (by rw[Tr.get_put' _ _ _ _ h40,if_pos rfl]) ?_
                  refine HR1.loose (cs':=(List.range (k.toNat*z.cells.size)).map fun j=>z.cells.toList.getD (j % z.cells.toList.length) default)
                   (rest:=(Builtin.zeroCells z.cells (grownCap w k.toNat 0 e-k.toNat)).toList) ?_ ?_ ?_ (grownCap_le_maxLen _ _ _ _ (by simp only[maxLen];omega))
                  · refine VRs.of_all rfl fun j v v' hv hv'=> ?_
                    rw[hv]at hv';injection hv' with hv';subst hv'
                    rw[List.getElem?_map,Option.map_eq_some_iff]at hv
                    obtain⟨q,hq,rfl⟩:=hv
                    rw[List.getD_eq_getElem?_getD]
                    cases hg:z.cells.toList[q % z.cells.toList.length]? with
                    | none=>exact .atom rfl
                    | some u=>obtain⟨u',h1,h2⟩:=hzz.get hg;rw[hg]at h1;injection h1 with h1;subst h1;exact h2.mono (upd_sub hn)
                  · rw[show w.heap.size=w.drew.heap.size from rfl,heap_alloc_new]
                    congr 2
                    apply Array.toList_inj.1;simp
                  · simp only[List.length_append,List.length_map,List.length_range,Array.length_toList,size_zeroCells,hzs,←Nat.add_mul];congr 1;omega
                · intro n hn' _
                  rw[Tr.get_put' _ _ _ _ h40,if_neg (fun e=>hn' ((ec n).2 e))]
              · cases h
            · cases h
        · cases h
      · cases h
    · cases h
  · cases h
end
end Go.Eng
