import Derived.Test.YtmiekcdkamgknaaGreatDoorR09
import Derived.Below
import Derived.Laws.Externs
set_option linter.unusedSectionVars false
namespace Go.Eng
open Go
section
variable [Base] {P:Program} {call:Caller} {cf:Cfg} {lf:Nat}
theorem SR.begin {H:Tr VObj}{next nt:Nat}{ρ:Ren}{w:World}{T:Tr Value}{a:Act}(R:Rel ρ H.get w)(ht:TR ρ nt T.val a)(hd:a.defers = []):SR next H ρ w nt ρ ⟨T,[],H,next,[]⟩ a w :=
 ⟨ht,by rw[hd];exact .nil,R,Post.refl' (fun n h=>by simp only at h;omega) (fun n h=>by cases h) R.lt⟩
theorem evEnter_ss (hcr:CallRest call){f:FuncId}{args:List Value}{H:Tr VObj}{next:Nat}{fn:Func}{st:St}(h:evEnter P call cf lf f args H next=some (fn,st)) :
 SS next H st:=by
 unfold evEnter at h
 split at h
 · split at h
   · split at h
     · split at h
       · rename_i h1
         simp only[Option.some.injEq,Prod.mk.injEq]at h;obtain⟨-,rfl⟩:=h
         exact(evCode_ss hcr _ _ _ _ h1 SS.begin).1
       · rename_i h1
         simp only[Option.some.injEq,Prod.mk.injEq]at h;obtain⟨-,rfl⟩:=h
         exact(evCode_ss hcr _ _ _ _ h1 SS.begin).1
       · cases h
     · cases h
   · cases h
 · cases h
theorem evEnter_ok (hcr:CallRest call)(hco:CallOk P cf call)(hm:P.follows .mixedOrders=true){f:FuncId}{args:List Value}{H:Tr VObj}{next:Nat}{fn:Func}{st:St}
 (h:evEnter P call cf lf f args H next=some (fn,st)) (hb : ∀n,(H.get n).isSome→n<next) {ρ:Ren} {w:World} {args':List Value} (R:Rel ρ H.get w) (hg : ∀g,g<cf.nb→∃k,ρ g=some (g,k))
 {B:Nat} (hfree : ∀n,next≤n→n<B→ρ n=none) (hB:st.next≤B) (ha:VRs ρ args args') :
 ∃c,P.funcs[f]? = some fn∧fn.body=some c∧∀Q:Exit→Act→World→Prop,
  (∀ρ' a' w' ex,ex = .normal∨ex = .ret→SR next H ρ w (max args.length fn.ntmps) ρ' st a' w'→Q ex a' w') →
  c.wpIn (FR none) 0 P Q { tmps:=(⟨args'⟩:Array Value)++Array.replicate (fn.ntmps-(⟨args'⟩:Array Value).size) undef,defers:= []} w:=by
 unfold evEnter at h
 split at h
 · rename_i fn0 hfn
   split at h
   · rename_i c hc
     split at h
     · rename_i hn
       have hbegin:=SR.begin (next:=next) R (TR.begin ha hn) rfl
       have run : ∀ex st1,evCode P call cf (max args.length fn0.ntmps) next none lf c ⟨putAll args 0 .nil,[],H,next,[]⟩=some (ex,st1)→(ex = .normal∨ex = .ret)→st1.next≤B →
        ∀Q:Exit→Act→World→Prop,(∀ρ' a' w' ex,ex = .normal∨ex = .ret→SR next H ρ w (max args.length fn0.ntmps) ρ' st1 a' w'→Q ex a' w') →
        c.wpIn (FR none) 0 P Q { tmps:=(⟨args'⟩:Array Value)++Array.replicate (fn0.ntmps-(⟨args'⟩:Array Value).size) undef,defers:= []} w:=fun ex st1 he hex hB1 Q hQ =>
        evCode_ok (ro:=none) (ro':=none) hb hcr hco hm hg hfree trivial c _ ex st1 he SS.begin hB1 ρ _ w Q hbegin fun ρ' a' w' hR'=>hQ ρ' a' w' ex hex hR'
       split at h
       · rename_i st1 h1
         simp only[Option.some.injEq,Prod.mk.injEq]at h;obtain⟨rfl,rfl⟩:=h
         exact⟨c,hfn,hc,run _ _ h1 (.inl rfl) hB⟩
       · rename_i st1 h1
         simp only[Option.some.injEq,Prod.mk.injEq]at h;obtain⟨rfl,rfl⟩:=h
         exact⟨c,hfn,hc,run _ _ h1 (.inr rfl) hB⟩
       · cases h
     · cases h
   · cases h
 · cases h
theorem SR.good {H:Tr VObj}{next nt:Nat}{ρ ρ':Ren}{w w':World}{st:St}{a:Act}{v v':Value}(h:SR next H ρ w nt ρ' st a w')(hs:SS next H st)(hv:VR ρ' v v'):Good ρ H next w ⟨v,st.H,st.next,st.dirty⟩ v' ρ' w' :=
 ⟨hv,h.post,hs.rest,hs.le⟩
theorem evLeave_ok {fn:Func}{st:St}{out:Out}(h:evLeave P fn st=some out) : ∃vs,resV P st.T st.H fn.results.toList=some vs∧out=⟨oneOf vs,st.H,st.next,st.dirty⟩:=by
 simp only[evLeave,Option.map_eq_some_iff]at h
 obtain⟨vs,h1,h2⟩:=h
 exact⟨vs,h1,h2.symm⟩
theorem evPlain_rest (hcr:CallRest call){f:FuncId}{args:List Value}{H:Tr VObj}{next:Nat}{out:Out}(h:evPlain P call cf lf f args H next=some out):Rest H next out:=by
 unfold evPlain at h
 split at h
 · rename_i fn st he
   split at h
   · obtain⟨vs, -,rfl⟩:=evLeave_ok h
     exact(evEnter_ss hcr he).rest
   · cases h
 · cases h
theorem evDfs_ss (hcr:CallRest call){n0:Nat}{H0:Tr VObj} : ∀(l:List Df) (st st':St),evDfs P call cf lf n0 l st=some st'→SS n0 H0 st→SS n0 H0 st'∧st.next≤st'.next:=by
 intro l
 induction l with
 | nil=>intro st st' h hs;simp only[evDfs,Option.some.injEq]at h;subst h;exact⟨hs,Nat.le_refl _⟩
 | cons d l ih =>
    intro st st' h hs
    cases d with
    | mark r =>
       simp only[evDfs]at h
       split at h
       · split at h
         · rename_i hc
           rw[Bool.and_eq_true]at hc
           obtain⟨h1,h2⟩:=ih _ st' h (hs.step (out:=⟨undef,_,st.next,[r]⟩) (T:=st.T) (rest_put hc.1) (Nat.le_refl _) (fun d hd=>by simp only[List.mem_singleton]at hd;subst hd;simpa[Nat.blt_eq]using hc.2))
           exact⟨h1,h2⟩
         · cases h
       · cases h
    | fn g args cap =>
       simp only[evDfs]at h
       split at h
       · split at h
         · rename_i out ho
           split at h
           · rename_i hc
             rw[Bool.and_eq_true,List.all_eq_true]at hc
             have hle:st.next≤out.next:=Nat.le_of_ble_eq_true hc.1
             obtain⟨h1,h2⟩:=ih _ st' h (hs.step (T:=st.T) (evPlain_rest hcr ho) hle (fun d hd=>by simpa[Nat.blt_eq]using hc.2 d hd))
             exact⟨h1,Nat.le_trans hle h2⟩
           · cases h
         · cases h
       · cases h
theorem evPlain_ok (hcr:CallRest call)(hco:CallOk P cf call)(hm:P.follows .mixedOrders=true){f:FuncId}{args:List Value}{H:Tr VObj}{next:Nat}{out:Out}
 (h:evPlain P call cf lf f args H next=some out) (hb : ∀n,(H.get n).isSome→n<next) {ρ:Ren} {w:World} {args':List Value} (R:Rel ρ H.get w) (hg : ∀g,g<cf.nb→∃k,ρ g=some (g,k))
 (hfree : ∀n,next≤n→n<out.next→ρ n=none) (ha:VRs ρ args args') (u:FrameMode) :
 CallsDIn (FR none) 0 P f ⟨args'⟩ u w fun e u' w'=>u'=u∧∃v' ρ',e = .returned v'∧Good ρ H next w out v' ρ' w':=by
 unfold evPlain at h
 split at h
 · rename_i fn st he
   have hss:=evEnter_ss hcr he
   split at h
   · rename_i hdf
     obtain⟨vs,hvs,rfl⟩:=evLeave_ok h
     obtain⟨c,hfn,hc,hrun⟩:=evEnter_ok (B:=st.next) hcr hco hm he hb R hg hfree (Nat.le_refl _) ha
     refine callsDIn_of_wp hfn hc trivial (hrun _ fun ρ' a' w' ex hex hR=> ?_)
     obtain⟨v',h1,h2⟩:=results_ok (P:=P) hR.tr hR.rel hvs
     have hd:a'.defers = []:=by have:=hR.dr;rw[hdf]at this;generalize a'.defers=q at this ⊢;cases this;rfl
     rcases hex with rfl | rfl<;>exact⟨hd,v',h2,v',ρ',rfl,hR.good hss h1⟩
   · cases h
 · cases h
theorem evDfs_ok (hcr:CallRest call)(hco:CallOk P cf call)(hm:P.follows .mixedOrders=true){n0 nt:Nat}{H0:Tr VObj}(hb0 : ∀n,(H0.get n).isSome→n<n0)  {ρ0:Ren}{w0:World}{fn:Func}{B:Nat}
 (hg : ∀g,g<cf.nb→∃k,ρ0 g=some (g,k)) (hfree : ∀n,n0≤n→n<B→ρ0 n=none) {R:Ending→World→Prop} {tmps:Array Value} : ∀(l:List Df) (st st':St),evDfs P call cf lf n0 l st=some st'→SS n0 H0 st→st'.next≤B →
 ∀(ρ:Ren) (ds:List Deferred) (w:World),DR ρ l ds→TR ρ nt st.T.val { tmps:=tmps,defers:= []}→Rel ρ st.H.get w→Post ρ0 H0.get w0 (fun n=>n0≤n∧n<st.next) (· ∈ st.dirty) ρ st.H.get w →
 (∀ρ' w',TR ρ' nt st'.T.val { tmps:=tmps,defers:= []}→Rel ρ' st'.H.get w'→Post ρ0 H0.get w0 (fun n=>n0≤n∧n<st'.next) (· ∈ st'.dirty) ρ' st'.H.get w'→∃v,(results fn tmps).run P w' = .ok v w'∧R (.returned v) w') →
 LeavesInM (FR none) 0 P fn tmps R ds .returning w:=by
 intro l
 induction l with
 | nil =>
    intro st st' h hs hB ρ ds w hd ht hrel hpost hfin
    simp only[evDfs,Option.some.injEq]at h;subst h
    cases hd
    exact hfin ρ w ht hrel hpost
 | cons d l ih =>
    intro st st' h hs hB ρ ds w hd ht hrel hpost hfin
    have hR:SR n0 H0 ρ0 w0 nt ρ ⟨st.T,[],st.H,st.next,st.dirty⟩ { tmps:=tmps,defers:= []} w:=⟨ht, .nil,hrel,hpost⟩
    have hs':SS n0 H0 ⟨st.T,[],st.H,st.next,st.dirty⟩:=⟨hs.rest,hs.le,hs.old⟩
    have hn0:=hs.le
    cases hd with
    | mark hr hrest =>
       rename_i r r' k ds
       simp only[evDfs]at h
       split at h
       · rename_i hget
         split at h
         · rename_i hc
           rw[Bool.and_eq_true]at hc
           have hn:r<1099511627775:=by simpa[nameOk,Nat.blt_eq]using hc.1
           have hlt:r<st.next:=by simpa[Nat.blt_eq]using hc.2
           obtain⟨b,kb,e1,e2⟩:=hrel.hr r _ hget
           rw[hr]at e1;injection e1 with e1;injection e1 with e1 _;subst e1
           have hsz:=hrel.live (by simp[hget,bl]) hr
           have hp:Post ρ st.H.get w (fun n=>st.next≤n∧n<st.next) (· ∈ [r]) ρ (Tr.put (some (VObj.other (.deferred none))) wide st.H r).get (w.putObj r' (.deferred none)):=by
            have x1:(fun n=>st.next≤n∧n<st.next)=fun _=>False:=by funext n;simp only[eq_iff_iff,iff_false];omega
            have x2:(fun n=>n∈ [r])=fun n=>n=r:=by funext n;simp
            simp only[x1,x2]
            refine Post.write (o:= .other (.deferred none)) hrel.lt (by simp[hget,wrO]) hr ⟨fun j hj=>World.putObj_heap_other hj,by simp[World.putObj],rfl,rfl,rfl⟩ (by rw[Tr.get_put' _ _ _ _ hn,if_pos rfl]) ⟨r',k,hr,World.putObj_heap_same hsz⟩
           have hstep:=hR.step (out:=⟨undef,_,st.next,[r]⟩) (v':=undef) (T:=st.T) (a':= { tmps:=tmps,defers:= []}) hs' (fun d hd=>by simp only[List.mem_singleton]at hd;subst hd;exact hlt)
            ⟨undef_VR,hp,rest_put hc.1,Nat.le_refl _⟩ (fun n h1 h2=>by simp only at h1 h2;omega) ht rfl
           refine⟨by simp, .inl ⟨r',_,rfl,run_takeDeferred e2,?_⟩⟩
           exact ih _ st' h (hs.step (out:=⟨undef,_,st.next,[r]⟩) (T:=st.T) (rest_put hc.1) (Nat.le_refl _) (fun d hd=>by simp only[List.mem_singleton]at hd;subst hd;exact hlt)) hB ρ ds _ hrest hstep.tr hstep.rel hstep.post hfin
         · cases h
       · cases h
    | fn hv hcap hrest =>
       rename_i g args args' cap cap' ds
       simp only[evDfs]at h
       split at h
       · rename_i hp
         split at h
         · rename_i out ho
           split at h
           · rename_i hc
             rw[Bool.and_eq_true,List.all_eq_true]at hc
             have hle:st.next≤out.next:=Nat.le_of_ble_eq_true hc.1
             have hdirty : ∀d∈out.dirty,d<st.next:=fun d hd=>by simpa[Nat.blt_eq]using hc.2 d hd
             have hss:=hs.step (T:=st.T) (evPlain_rest hcr ho) hle hdirty
             have hB':=(evDfs_ss hcr l _ st' h hss).2
             have hB1:out.next≤B:=Nat.le_trans hB' hB
             have hg' : ∀g,g<cf.nb→∃k,ρ g=some (g,k):=fun g hgn=>by
              obtain⟨k,hk⟩:=hg g hgn
              exact⟨k,hpost.sub _ _ hk⟩
             have hfr : ∀n,st.next≤n→n<out.next→ρ n=none:=fun n g1 g2=>by
              rw[hpost.ren n (by omega)];exact hfree n (by omega) (by omega)
             have e:((⟨args'⟩:Array Value)++⟨cap'⟩)=⟨args'++cap'⟩:=by rw[←Array.toList_inj];simp
             refine⟨by simp, .inr ⟨fun h=>by simp at h, .func g,⟨cap'⟩,g,⟨args'++cap'⟩,rfl,?_,fun _ _=>trivial,?_⟩⟩
             · simp only[invoke,e,plainFn_enter hp]
             · refine CallsDIn.mono (evPlain_ok hcr hco hm ho (hs.bound hb0) hrel hg' hfr (hv.append hcap) .returning) ?_
               rintro e u' w' ⟨rfl,v',ρ',rfl,hgood⟩
               have hstep:=hR.step (T:=st.T) (a':= { tmps:=tmps,defers:= []}) hs' hdirty hgood (fun n g1 g2=>hfree n (by simp only at g1;omega) (by omega)) (ht.mono hgood.post.sub) rfl
               exact ih _ st' h hss hB ρ' ds w' (hrest.mono hgood.post.sub) hstep.tr hstep.rel hstep.post hfin
           · cases h
         · cases h
       · cases h
theorem evFn_rest (hcr:CallRest call){f:FuncId}{args:List Value}{H:Tr VObj}{next:Nat}{out:Out}(h:evFn P call cf lf f args H next=some out):SS next H ⟨.nil,[],out.H,out.next,out.dirty⟩:=by
 unfold evFn at h
 split at h
 · rename_i fn st he
   split at h
   · rename_i st' hd
     obtain⟨vs, -,rfl⟩:=evLeave_ok h
     have:=(evDfs_ss hcr _ _ _ hd (evEnter_ss hcr he)).1
     exact⟨this.rest,this.le,this.old⟩
   · cases h
 · cases h
theorem evFn_ok (hcr:CallRest call)(hco:CallOk P cf call)(hm:P.follows .mixedOrders=true){f:FuncId}{args:List Value}{H:Tr VObj}{next:Nat}{out:Out}
 (h:evFn P call cf lf f args H next=some out) (hb : ∀n,(H.get n).isSome→n<next) {ρ:Ren} {w:World} {args':List Value} (R:Rel ρ H.get w) (hg : ∀g,g<cf.nb→∃k,ρ g=some (g,k))
 (hfree : ∀n,next≤n→n<out.next→ρ n=none) (ha:VRs ρ args args') :
 Calls P f ⟨args'⟩ w fun e w'=>∃v' ρ',e = .returned v'∧Good ρ H next w out v' ρ' w':=by
 unfold evFn at h
 split at h
 · rename_i fn st he
   have hss:=evEnter_ss hcr he
   split at h
   · rename_i st' hd
     obtain⟨vs,hvs,rfl⟩:=evLeave_ok h
     obtain⟨hss',hle⟩:=evDfs_ss hcr _ _ _ hd hss
     obtain⟨c,hfn,hc,hrun⟩:=evEnter_ok (B:=st'.next) hcr hco hm he hb R hg hfree hle ha
     refine(callsIn_wide (n:=0)).1 ?_
     refine callsIn_of_wp_marks (F:=FR none) hfn hc trivial (hrun _ fun ρ' a' w' ex hex hR=> ?_)
     have fin:LeavesInM (FR none) 0 P fn a'.tmps (fun e w'=>∃v' ρ',e = .returned v'∧Good ρ H next w ⟨oneOf vs,st'.H,st'.next,st'.dirty⟩ v' ρ' w') a'.defers .returning w' :=
      evDfs_ok hcr hco hm hb hg hfree st.df st st' hd hss (Nat.le_refl _) ρ' a'.defers w' hR.dr ⟨hR.tr.size,hR.tr.val⟩ hR.rel hR.post fun ρ'' w'' ht hrel hpost=>by
       obtain⟨v',h1,h2⟩:=results_ok (P:=P) ht hrel hvs
       exact⟨v',h2,v',ρ'',rfl,h1,hpost,hss'.rest,hss'.le⟩
     rcases hex with rfl | rfl<;>exact fin
   · cases h
 · cases h
end
end Go.Eng
set_option linter.unusedSectionVars false
namespace Go.Eng
open Go
section
variable [Base] {P:Program} {call:Caller} {cf:Cfg} {lf:Nat}
theorem putZip_val : ∀(ts:List Tmp) (vs:List Value) (T:Tr Value) (t:Nat),(∀x∈ts,x<1099511627775)→vs.length=ts.length →
 (putZip ts vs T).val t=(ts.zip vs).foldl (fun f p=>fun t=>if t=p.1 then p.2 else f t) T.val t
  | [],[],T,t,_,_=>rfl
  | [],_::_,_,_,_,h=>by simp at h
  | _::_,[],_,_,_,h=>by simp at h
  | x::ts,v::vs,T,t,hx,hl=>by
     simp only[putZip,List.zip_cons_cons,List.foldl_cons]
     rw[putZip_val ts vs _ t (fun y hy=>hx y (by simp[hy])) (by simpa using hl)]
     have e:(Tr.put (some v) wide T x).val=fun t=>if t=x then v else T.val t:=by
      funext t
      simp only[Tr.val,Tr.get_put' _ _ _ _ (hx x (by simp))]
      by_cases h:t=x<;>simp[h]
     rw[e]
theorem TR.zip {ρ:Ren}{nt:Nat} : ∀(ts:List Tmp) {vs vs':List Value} {F:Nat→Value} {tmps:Array Value},VRs ρ vs vs'→vs.length=ts.length→(∀x∈ts,x<nt)→TR ρ nt F { tmps:=tmps,defers:= []} →
 TR ρ nt ((ts.zip vs).foldl (fun f p=>fun t=>if t=p.1 then p.2 else f t) F) { tmps:=(ts.zip vs').foldl (fun tmps p=>tmps.setIfInBounds p.1 p.2) tmps,defers:= []}
 | [],_,_,_,_,_,_,_,h=>h
 | x::ts,[],_,_,_,_,hl,_,_=>by simp at hl
 | x::ts,v::vs,_,F,tmps, .cons hv ht,hl,hx,h=>by
    simp only[List.zip_cons_cons,List.foldl_cons]
    refine TR.zip ts ht (by simpa using hl) (fun y hy=>hx y (by simp[hy])) ?_
    exact h.put hv (hx x (by simp))
theorem evRound_ss (hcr:CallRest call){l:Nat}{args:List Value}{H:Tr VObj}{next:Nat}{out:Out}(h:evRound P call cf lf l args H next=some out):SS next H ⟨.nil,[],out.H,out.next,out.dirty⟩:=by
 unfold evRound at h
 split at h
 · split at h
   · split at h
     · rename_i st1 h1
       have s1:=(evCode_ss hcr _ _ _ _ h1 SS.begin).1
       split at h
       · split at h
         · rename_i st2 h2
           have s2:=(setLoop_ss h2 s1).1
           have fin : ∀nt body st3 ex s pe b,evCode P call cf nt next (some l) lf body st2=some (ex,st3)→((setLoop next st3 l s pe).map fun st4=>(⟨.bool b,st4.H,st4.next,st4.dirty⟩:Out))=some out→SS next H ⟨.nil,[],out.H,out.next,out.dirty⟩:=by
            intro nt body st3 ex s pe b h3 h4
            rw[Option.map_eq_some_iff]at h4
            obtain⟨st4,h5,rfl⟩:=h4
            have s4:=(setLoop_ss h5 (evCode_ss hcr _ _ _ _ h3 s2).1).1
            exact⟨s4.rest,s4.le,s4.old⟩
           split at h
           · rename_i st3 h3;exact fin _ _ _ _ _ _ _ h3 h
           · rename_i st3 h3;exact fin _ _ _ _ _ _ _ h3 h
           · rename_i id st3 h3;exact fin _ _ _ _ _ _ _ h3 h
           · cases h
         · cases h
       · cases h
     · cases h
   · cases h
 · cases h
theorem evRound_ok (hcr:CallRest call)(hco:CallOk P cf call)(hm:P.follows .mixedOrders=true){l:Nat}{args:List Value}{H:Tr VObj}{next:Nat}{out:Out}
 (h:evRound P call cf lf l args H next=some out) (hb : ∀n,(H.get n).isSome→n<next) {ρ:Ren} {w:World} {args':List Value} (R:Rel ρ H.get w) (hg : ∀g,g<cf.nb→∃k,ρ g=some (g,k))
 (hfree : ∀n,next≤n→n<out.next→ρ n=none) (ha:VRs ρ args args') :
 TgtCalls P ρ (.round l) ⟨args'⟩ w fun e w'=>∃v' ρ',e = .returned v'∧Good ρ H next w out v' ρ' w':=by
 unfold evRound at h
 split at h
 · rename_i pe0 nt T ps assign body D hg0
   split at h
   · rename_i hc
     simp only[Bool.and_eq_true,List.all_eq_true,Nat.blt_eq]at hc
     obtain⟨⟨⟨hlen,hps⟩,hln⟩,hlt⟩:=hc
     have hlen':args.length=ps.length:=Nat.eq_of_beq_eq_true hlen
     obtain⟨l',k,hl,fn,tmps,D',kD,hw,hsz,hv,hD⟩:=R.hr l _ hg0
     have hal:=ha.length
     have hy:=run_yield (P:=P) (args:=⟨args'⟩) hw (by simp;omega)
     refine⟨l',k,hl,_,_,_,_,hy,fun ro=> ?_⟩
     split at h
     · rename_i st1 h1
       have s1:=(evCode_ss hcr _ _ _ _ h1 SS.begin).1
       split at h
       · rename_i pe1 nt1 T1 ps1 as1 bo1 D1 hg1
         split at h
         · rename_i st2 h2
           obtain⟨s2,n2⟩:=setLoop_ss h2 s1
           have hbegin:SR next H ρ w nt ρ ⟨putZip ps args T,[],H,next,[]⟩ { tmps:=((⟨ps⟩:Array Tmp).zip ⟨args'⟩).foldl (fun tmps p=>tmps.setIfInBounds p.1 p.2) tmps,defers:= []} w:=by
            refine SR.begin R ?_ rfl
            have ht:TR ρ nt T.val { tmps:=tmps,defers:= []}:=⟨hsz,hv⟩
            have:=TR.zip (ρ:=ρ) (nt:=nt) ps ha hlen' (fun x hx=>(hps x hx).1) ht
            have e1:(putZip ps args T).val=(ps.zip args).foldl (fun f p=>fun t=>if t=p.1 then p.2 else f t) T.val:=by
             funext t;exact putZip_val ps args T t (fun x hx=>by have:=(hps x hx).2;simpa[nameOk,Nat.blt_eq]using this) hlen'
            have e2:((⟨ps⟩:Array Tmp).zip ⟨args'⟩).foldl (fun tmps p=>tmps.setIfInBounds p.1 p.2) tmps=(ps.zip args').foldl (fun tmps p=>tmps.setIfInBounds p.1 p.2) tmps:=by
             rw[←Array.foldl_toList];simp
            rw[e1,e2]
            exact this
           have hror:RoR ρ (some l) (some l'):=⟨k,hl⟩
           have fin : ∀st3 ex s pe b (jump:Option Code),evCode P call cf nt next (some l) lf body st2=some (ex,st3)→((setLoop next st3 l s pe).map fun st4=>(⟨.bool b,st4.H,st4.next,st4.dirty⟩:Out))=some out →
            (s=if jump.isNone then LoopState.ready else LoopState.done)→pe=jump→b=jump.isNone →
            (∀(R':Ending→World→Prop) a w,(∃v w',(Instr.endRound l' jump).run P w = .ok v w'∧R' (.returned v) w')→roundPost P l' R' ex a w) →
            RoundIn (FR ro) 0 P l' fn (((⟨ps⟩:Array Tmp).zip ⟨args'⟩).foldl (fun tmps p=>tmps.setIfInBounds p.1 p.2) tmps) assign body w fun e w'=>∃v' ρ',e = .returned v'∧Good ρ H next w out v' ρ' w':=by
            intro st3 ex s pe b jump h3 h4 hs hpe hbj hpost
            subst hpe
            rw[Option.map_eq_some_iff]at h4
            obtain⟨st4,h5,rfl⟩:=h4
            have s3:=(evCode_ss hcr _ _ _ _ h3 s2)
            obtain⟨s4,n4⟩:=setLoop_ss h5 s3.1
            have hst4:st3.next≤st4.next:=Nat.le_of_eq n4.symm
            have hfree' : ∀n,next≤n→n<st4.next→ρ n=none:=hfree
            refine roundIn_of_wpIn (F:=FR ro) trivial ?_
            refine evCode_ok (ro:=some l) (ro':=some l') hb hcr hco hm hg hfree' hror assign _ .normal st1 h1 SS.begin (by have:=s3.2;omega) ρ _ w _ hbegin fun ρ1 a1 w1 hR1=> ?_
            obtain⟨l2,k2,r,e1,e2,hR2⟩:=hR1.setLoop s1 h2
            have hl1:=hR1.post.sub _ _ hl
            rw[hl1]at e1
            injection e1 with e1;injection e1 with e1 _;subst e1
            obtain⟨l3,k3,e3,fn3,tmps3,D3,kD3,e4, -⟩:=hR1.rel.hr l _ hg1
            rw[hl1]at e3
            injection e3 with e3;injection e3 with e3 _;subst e3
            rw[e2]at e4
            injection e4 with e4;injection e4 with e4
            have hready:r.state = .ready:=by rw[e4]
            have hpend:r.pending=pe1:=by rw[e4]
            refine⟨_,run_beginRound (P:=P) e2 hready,?_⟩
            have hobj:({ r with state:= .busy}:Loop) = { r with state:= .busy,pending:=pe1}:=by rw[←hpend]
            rw[hobj]
            refine evCode_ok (ro:=some l) (ro':=some l') hb hcr hco hm hg hfree' hror body _ ex st3 h3 s2 (by omega) ρ1 a1 _ _ hR2 fun ρ3 a3 w3 hR3=> ?_
            obtain⟨l4,k4,r4,e5,e6,hR4⟩:=hR3.setLoop s3.1 h5
            have hl3:=hR3.post.sub _ _ hl
            rw[hl3]at e5
            injection e5 with e5;injection e5 with e5 _;subst e5
            refine hpost _ a3 w3 ⟨_,_,run_endRound (P:=P) pe e6, .bool pe.isNone,ρ3,rfl,?_⟩
            rw[←hs]
            exact⟨by rw[hbj];exact VR.of_flat 1 (.bool pe.isNone) rfl,hR4.post,s4.rest,s4.le⟩
           split at h
           · rename_i st3 h3
             exact fin st3 .normal .ready none true none h3 h rfl rfl rfl fun _ _ _ h=>h
           · rename_i st3 h3
             exact fin st3 .ret .done (some .ret) false (some .ret) h3 h rfl rfl rfl fun _ _ _ h=>h
           · rename_i id st3 h3
             exact fin st3 (.exit id) .done (some (.exit id)) false (some (.exit id)) h3 h rfl rfl rfl fun _ _ _ h=>h
           · cases h
         · cases h
       · cases h
     · cases h
   · cases h
 · cases h
theorem evCall_all (cf:Cfg)(lf:Nat)(hX:XOk P cf)(hm:P.follows .mixedOrders=true) : ∀d:Nat,CallRest (evCall P cf lf d)∧CallOk P cf (evCall P cf lf d)
 | 0=>⟨fun _ _ _ _ _ h=>by simp[evCall]at h,hX,fun _ _ _ _ _ h=>by simp[evCall]at h⟩
 | d+1=>by
    obtain⟨hcr,hco⟩:=evCall_all cf lf hX hm d
    refine⟨fun f args H next out h=> ?_,hX,fun f args H next out h ρ w args' R hb hg hfree ha=> ?_⟩
    · cases f with
      | fn f=>exact(evFn_rest hcr h).rest
      | round l=>exact(evRound_ss hcr h).rest
    · cases f with
      | fn f=>exact evFn_ok hcr hco hm h hb R hg hfree ha
      | round l=>exact evRound_ok hcr hco hm h hb R hg hfree ha
theorem calls_of_ev {cf:Cfg}{lf d:Nat}(hX:XOk P cf)(hm:P.follows .mixedOrders=true){f:FuncId}{args:List Value}{v:Value}{H:Tr VObj}{next:Nat}{out:Out}(he:evCall P cf lf d (.fn f) args H next=some out)(hv:out.v=v)(hf:flat 8 v=true)
 (hd:out.dirty = []) {ρ:Ren} {w:World} {args':List Value} (R:Rel ρ H.get w) (hb : ∀n,(H.get n).isSome→n<next) (hg : ∀g,g<cf.nb→∃k,ρ g=some (g,k)) (hfree : ∀n,next≤n→ρ n=none) (ha:VRs ρ args args') :
 Calls P f ⟨args'⟩ w fun e w'=>e = .returned v∧RowKit.Below w.heap.size w w':=by
 refine Calls.mono ((evCall_all cf lf hX hm d).2.2 (.fn f) args H next out he ρ w args' R hb hg (fun n h _=>hfree n h) ha) ?_
 rintro e w' ⟨v',ρ',rfl,g⟩
 have hvv:=VR.eq_of_flat 8 v v' hf (hv▸g.val)
 refine⟨by rw[hvv],g.post.os,g.post.tape,g.post.output,g.post.size,fun k hk=>g.post.frame k hk fun d k' hdd=> ?_⟩
 rw[hd]at hdd;cases hdd
end
end Go.Eng
set_option linter.unusedSectionVars false
namespace Go.Eng
open Go
section
variable [Base]
noncomputable def mkH:List (Nat × VObj)→Tr VObj
 | []=> .nil
 | (n,o)::l=>Tr.put (some o) wide (mkH l) n
theorem mkH_get : ∀ {L:List (Nat × VObj)} {n:Nat} {o:VObj},(∀p∈L,p.1<1099511627775)→(mkH L).get n=some o→(n,o)∈L
 | [],n,o,_,h=>by cases h
 | (m,p)::L,n,o,hk,h=>by
     simp only[mkH,Tr.get_put' _ _ _ _ (hk (m,p) (by simp))]at h
     split at h
     · rename_i e
       simp only[Option.some.injEq]at h
       subst e h
       simp
     · exact List.mem_cons_of_mem _ (mkH_get (fun q hq=>hk q (List.mem_cons_of_mem _ hq)) h)
def okOut:Option Out→Bool
 | some ⟨.bool b,_,_,[]⟩=>b
 | _=>false
theorem calls_true {P:Program}{cf:Cfg}{lf d:Nat}(hX:XOk P cf)(hm:P.follows .mixedOrders=true){f:FuncId}{L:List (Nat × VObj)}{next:Nat}(he:okOut (evCall P cf lf d (.fn f) [] (mkH L) next)=true)
 (hk : ∀p∈L,p.1<next∧p.1<1099511627775) {ρ:Ren} {w:World} (hfix : ∀g,g<cf.nb→∃k,ρ g=some (g,k)) (hfree : ∀n,next≤n→ρ n=none)
 (hlt:LT ρ w) (hr : ∀p∈L,HR1 ρ p.1 p.2 w) (hro : ∀p∈L,wrO (some p.2)=false)
 (hinj : ∀p∈L,∀q∈L,∀b k k',ρ p.1=some (b,k)→ρ q.1=some (b,k')→p.1=q.1) :
 Calls P f #[] w fun e w'=>e = .returned (.bool true)∧RowKit.Below w.heap.size w w':=by
 have hget : ∀n,((mkH L).get n).isSome→∃p∈L,p.1=n∧(mkH L).get n=some p.2:=fun n hn=>by
  obtain⟨o,ho⟩:=Option.isSome_iff_exists.1 hn
  exact⟨(n,o),mkH_get (fun p hp=>(hk p hp).2) ho,rfl,ho⟩
 unfold okOut at he
 split at he
 · rename_i b H n hev
   subst he
   refine calls_of_ev hX hm hev rfl rfl rfl (ρ:=ρ) (args':= []) ⟨fun n o ho=> ?_,fun n m b k k' hn hm' h1 h2=> ?_,hlt,fun n b k hn _=> ?_⟩ (fun n hn=> ?_) hfix hfree .nil
   · exact hr _ (mkH_get (fun p hp=>(hk p hp).2) ho)
   · obtain⟨p,hp,rfl, -⟩:=hget n (bl_some hn)
     obtain⟨q,hq,rfl, -⟩:=hget m (bl_some hm')
     exact hinj p hp q hq b k k' h1 h2
   · obtain⟨p,hp,rfl,e⟩:=hget n (wr_some hn)
     rw[e,hro p hp]at hn;cases hn
   · obtain⟨p,hp,rfl, -⟩:=hget n hn
     exact(hk p hp).1
 · cases he
theorem xs_ok {P:Program}{f:FuncId}{k:XK}{fn:Func}(hf:P.funcs[f]? = some fn)(hn:(fn.name == "runtime.NumGoroutine")=false) (hb:fn.body.isNone=true) (hx:Extern.findNext fn=none) (he:Extern.find fn=some k.fn)
 (args:Array Value) (w:World):(callFunc f args).run P w=((k.fn args).run P w).andThen fun v w'=> .ok (.value v) w' :=
  run_callFunc_extern hf hn hb hx he args w
def xsOf (l:List (FuncId × XK))(f:FuncId):Option XK:=(l.find? fun p=>Nat.beq p.1 f).map (·.2)
theorem xsOf_ok {P:Program}{l:List (FuncId × XK)}(h : ∀p∈l,∀(args:Array Value) (w:World),(callFunc p.1 args).run P w=((p.2.fn args).run P w).andThen fun v w'=> .ok (.value v) w'){f:FuncId}{k:XK}(hf:xsOf l f=some k)
 (args:Array Value) (w:World):(callFunc f args).run P w=((k.fn args).run P w).andThen fun v w'=> .ok (.value v) w':=by
  obtain⟨p,hp,rfl⟩:=Option.map_eq_some_iff.1 hf
  have:=Nat.eq_of_beq_eq_true (List.find?_some (p:=fun p:FuncId × XK=>Nat.beq p.1 f) hp)
  subst this
  exact h p (List.mem_of_find?_eq_some hp) args w
theorem HR1.laid {ρ:Ren}{g nb:Nat}{k:K}{v:Value}{w:World}(hg:Fixes ρ nb)(hv:fixd nb 8 v=true)(hn:ρ g=some (g,k))(hE:w.cell? ⟨g,0,none⟩=some v):HR1 ρ g (.ro [v] false) w:=by
 unfold World.cell? at hE
 split at hE
 · rename_i c e fr hh
   simp only[Option.isSome_none,Bool.false_eq_true,if_false]at hE
   refine⟨g,k,hn,c,e,fr,hh,?_,?_,fun h=>by cases h⟩
   · have hv:VRs ρ [v] [v]:= .cons (VR.of_fixd hg 8 v hv) .nil
     obtain⟨l⟩:=c
     cases l with
     | nil=>cases hE
     | cons x l =>
        obtain rfl:x=v:=by simpa using hE
        simpa using hv
   · exact(Array.getElem?_eq_some_iff.1 hE).1
 · cases hE
def renG (nb:Nat):Ren:=fun n=>if n<nb then some (n,kn far)else none
theorem renG_fix (nb:Nat):Fixes (renG nb) nb:=fun g hg=>⟨kn far,by simp only[renG];rw[if_pos hg]⟩
end
theorem calls_true_one {P:Program}{cf:Cfg}{lf d g:Nat}{v:Value}(hX : ∀B:Base,@XOk B P cf)(hm:P.follows .mixedOrders=true){f:FuncId}{next:Nat}(he:okOut (evCall P cf lf d (.fn f) [] (mkH [(g, .ro [v] false)]) next)=true)
 (hn:cf.nb≤next) (hgn:g<cf.nb) (hg40:g<1099511627775) (hv:fixd cf.nb 8 v=true) {w:World} (hE:w.cell? ⟨g,0,none⟩=some v) :
 Calls P f #[] w fun e w'=>e = .returned (.bool true)∧RowKit.Below w.heap.size w w':=by
 letI:Base:=⟨w.heap.size,w,fun _ _ _=>False⟩
 refine calls_true (hX _) hm he (ρ:=renG cf.nb) (by intro p hp;simp only[List.mem_singleton]at hp;subst hp;exact⟨by show g<next;omega,hg40⟩) (renG_fix _)
  (fun n h=>by simp only[renG];rw[if_neg (by omega)]) ⟨Nat.le_refl _,fun n b k h=> ?_⟩ (fun p hp=> ?_) (fun p hp=> ?_) (fun p hp q hq _ _ _ _ _=> ?_)
 · simp only[renG]at h
   split at h
   · simp only[Option.some.injEq,Prod.mk.injEq]at h;exact .inl (by rw[←h.2])
   · cases h
 · simp only[List.mem_singleton]at hp
   subst hp
   exact HR1.laid (renG_fix _) hv (by simp only[renG];rw[if_pos hgn]) hE
 · simp only[List.mem_singleton]at hp
   subst hp
   rfl
 · simp only[List.mem_singleton]at hp hq
   rw[hp,hq]
theorem calls_true_none {P:Program}{cf:Cfg}{lf d:Nat}(hX : ∀B:Base,@XOk B P cf)(h0:cf.nb=0)(hm:P.follows .mixedOrders=true){f:FuncId}{next:Nat}(he:okOut (evCall P cf lf d (.fn f) [] (mkH []) next)=true)(w:World) :
 Calls P f #[] w fun e w'=>e = .returned (.bool true)∧RowKit.Below w.heap.size w w' :=
 letI:Base:=⟨w.heap.size,w,fun _ _ _=>False⟩
 calls_true (hX _) hm he (fun p hp=>by cases hp) (ρ:=fun _=>none) (fun g hg=>absurd (h0▸hg) (Nat.not_lt_zero _)) (fun _ _=>rfl) ⟨Nat.le_refl _,fun n b k h=>by cases h⟩ (fun p hp=>by cases hp) (fun p hp=>by cases hp) (fun p hp=>by cases hp)
end Go.Eng
