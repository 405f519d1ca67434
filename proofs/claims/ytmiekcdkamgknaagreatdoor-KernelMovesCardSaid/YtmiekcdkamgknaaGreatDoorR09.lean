import Derived.Test.YtmiekcdkamgknaaGreatDoorR08
set_option linter.unusedSectionVars false
namespace Go.Eng
open Go
section
variable (P:Program)
noncomputable def withH (n0:Nat) (st:St) (H:Tr VObj) (next:Nat) (dirty:List Nat):St:=⟨st.T,st.df,H,next,addDirty n0 dirty st.dirty⟩
def nameOk (n:Nat):Bool:=Nat.blt n 1099511627775
noncomputable def setLoop (n0:Nat) (st:St) (l:Nat) (s:LoopState) (pe:Option Code):Option St :=
 match st.H.get l with
 | some (.lp _ _ nt T ps as bo D)=>if nameOk l && Nat.blt l st.next then some (withH n0 st (Tr.put (some (.lp s pe nt T ps as bo D)) wide st.H l) st.next [l])else none
 | _=>none
noncomputable def newBlock (n0:Nat) (st:St) (o:VObj):St:=withH n0 st (Tr.put (some o) wide st.H st.next) (st.next+1) []
noncomputable def evRangeGo (call:Caller) (n0:Nat) (st:St) (L g:Nat) (args:List Value):Option (Exit × St) :=
 match call (.fn g) args st.H st.next with
 | some out =>
    if Nat.ble st.next out.next && out.dirty.all (fun d=>Nat.blt d st.next)then
     let st':=addOut n0 st st.T out
     match st'.H.get L with
     | some (.lp s pe _ _ _ _ _ _) =>
        match s with
        | .busy=>none
        | _ =>
           match setLoop n0 st' L .exhausted pe with
           | some st'' =>
              match pe with
              | none=>some (.normal,st'')
              | some .ret=>some (.ret,st'')
              | some (.exit id)=>some (.exit id,st'')
              | _=>none
           | none=>none
     | _=>none
    else none
 | none=>none
noncomputable def evRange (call:Caller) (cf:Cfg) (nt n0:Nat) (ro:Option Nat) (f:Operand) (ps:Array Tmp) (assign body:Code) (st:St):Option (Exit × St) :=
 if okOperand cf.nb f && nameOk (st.next+2)then
  match env st.T f with
  | .func (.func g) ⟨first⟩ ⟨cap⟩ =>
     if plainFn P g then
      match ro with
      | none =>
         let st1:=newBlock n0 st (.other (.deferred (some [])))
         let st2:=newBlock n0 { st1 with df:= .mark st.next::st.df} (.lp .ready none nt st.T ps.toList assign body st.next)
         evRangeGo call n0 st2 (st.next+1) g (first++ [.func (.yield (st.next+1)) #[] #[]]++cap)
      | some l0 =>
         match st.H.get l0 with
         | some (.lp _ _ _ _ _ _ _ D) =>
            evRangeGo call n0 (newBlock n0 st (.lp .ready none nt st.T ps.toList assign body D)) st.next g (first++ [.func (.yield st.next) #[] #[]]++cap)
         | _=>none
     else none
  | _=>none
 else none
noncomputable def iter (f:St→Option (Exit × St)):Nat→St→Option (Exit × St)
 | 0,_=>none
 | n+1,st =>
    match f st with
    | some (.normal,st')=>iter f n st'
    | r=>r
noncomputable def evCode (call:Caller) (cf:Cfg) (nt n0:Nat) (ro:Option Nat) (lf:Nat):Code→St→Option (Exit × St)
 | .skip,st=>some (.normal,st)
 | .label _,st=>some (.normal,st)
 | .region _ ops draw,st=>(evRegion P call cf nt n0 ro ops draw st).map fun st'=>(.normal,st')
 | .seq a b,st =>
    match evCode call cf nt n0 ro lf a st with
    | some (.normal,st')=>evCode call cf nt n0 ro lf b st'
    | r=>r
 | .cond c x y,st =>
    if okOperand cf.nb c then
     match env st.T c with
     | .bool t=>if t then evCode call cf nt n0 ro lf x st else evCode call cf nt n0 ro lf y st
     | _=>none
    else none
 | .block id c,st =>
    match evCode call cf nt n0 ro lf c st with
    | some (.exit id',st')=>if id'=id then some (.normal,st')else some (.exit id',st')
    | r=>r
 | .loop c,st=>iter (evCode call cf nt n0 ro lf c) lf st
 | .exit id,st=>some (.exit id,st)
 | .ret,st=>some (.ret,st)
 | .rangeFunc f ps assign body,st=>evRange P call cf nt n0 ro f ps assign body st
 | _,_=>none
end
section
variable [Base] {P:Program} {call:Caller} {cf:Cfg} {nt n0:Nat} {H0:Tr VObj} {ρ0:Ren} {w0:World}
theorem rest_put {H:Tr VObj}{next l:Nat}{x:Option VObj}(hl:nameOk l=true):Rest H next ⟨undef,Tr.put x wide H l,next,[l]⟩:=Rest.put (by simpa[nameOk,Nat.blt_eq]using hl)
theorem setLoop_ss {st st':St}{l:Nat}{s:LoopState}{pe:Option Code}(h:setLoop n0 st l s pe=some st')(hs:SS n0 H0 st):SS n0 H0 st'∧st'.next=st.next:=by
 unfold setLoop at h
 split at h
 · split at h
   · rename_i hc
     simp only[Option.some.injEq]at h;subst h
     rw[Bool.and_eq_true]at hc
     exact⟨hs.step (out:=⟨undef,_,st.next,[l]⟩) (T:=st.T) (rest_put hc.1) (Nat.le_refl _) (fun d hd=>by simp only[List.mem_singleton]at hd;subst hd;simpa[Nat.blt_eq]using hc.2),rfl⟩
   · cases h
 · cases h
theorem newBlock_ss {st:St}{o:VObj}(hn:st.next<1099511627775)(hs:SS n0 H0 st):SS n0 H0 (newBlock n0 st o) :=
 hs.step (out:=⟨undef,Tr.put (some o) wide st.H st.next,st.next+1,[]⟩) (T:=st.T) (Rest.new hn) (Nat.le_succ _) (fun d hd=>by cases hd)
theorem evRangeGo_ss (hcr:CallRest call){st st':St}{L g:Nat}{args:List Value}{ex:Exit}(h:evRangeGo call n0 st L g args=some (ex,st'))(hs:SS n0 H0 st):SS n0 H0 st'∧st.next≤st'.next:=by
 unfold evRangeGo at h
 split at h
 · rename_i out ho
   split at h
   · rename_i hc
     rw[Bool.and_eq_true,List.all_eq_true]at hc
     have hle:st.next≤out.next:=Nat.le_of_ble_eq_true hc.1
     have h1:=hs.step (T:=st.T) (hcr _ _ _ _ _ ho) hle (fun d hd=>by simpa[Nat.blt_eq]using hc.2 d hd)
     dsimp only at h
     split at h
     · rename_i s pe nt' T' ps' as' bo' D' hg
       split at h
       · cases h
       · split at h
         · rename_i st'' hset
           obtain⟨h2,h3⟩:=setLoop_ss hset h1
           have h4:st.next≤st''.next:=by rw[h3];exact hle
           split at h
           · simp only[Option.some.injEq,Prod.mk.injEq]at h;obtain⟨-,rfl⟩:=h;exact⟨h2,h4⟩
           · simp only[Option.some.injEq,Prod.mk.injEq]at h;obtain⟨-,rfl⟩:=h;exact⟨h2,h4⟩
           · simp only[Option.some.injEq,Prod.mk.injEq]at h;obtain⟨-,rfl⟩:=h;exact⟨h2,h4⟩
           · cases h
         · cases h
     · cases h
   · cases h
 · cases h
theorem evRange_ss (hcr:CallRest call){ro:Option Nat}{f:Operand}{ps:Array Tmp}{assign body:Code}{st st':St}{ex:Exit}(h:evRange P call cf nt n0 ro f ps assign body st=some (ex,st'))(hs:SS n0 H0 st) :
 SS n0 H0 st'∧st.next≤st'.next:=by
 unfold evRange at h
 split at h
 · rename_i hc
   rw[Bool.and_eq_true]at hc
   have hn:st.next+2<1099511627775:=by simpa[nameOk,Nat.blt_eq]using hc.2
   split at h
   · split at h
     · split at h
       · have h1:=newBlock_ss (n0:=n0) (H0:=H0) (o:= .other (.deferred (some []))) (show st.next<1099511627775 by omega) hs
         have h1':SS n0 H0 { newBlock n0 st (.other (.deferred (some [])))with df:= .mark st.next::st.df}:=⟨h1.rest,h1.le,h1.old⟩
         have h2:=newBlock_ss (n0:=n0) (H0:=H0) (o:= .lp .ready none nt st.T ps.toList assign body st.next) (st:= { newBlock n0 st (.other (.deferred (some [])))with df:= .mark st.next::st.df})
          (show st.next+1<1099511627775 by omega) h1'
         obtain⟨h3,h4⟩:=evRangeGo_ss hcr h h2
         exact⟨h3,Nat.le_trans (show st.next≤st.next+1+1 by omega) h4⟩
       · split at h
         · obtain⟨h3,h4⟩:=evRangeGo_ss hcr h (newBlock_ss (show st.next<1099511627775 by omega) hs)
           exact⟨h3,Nat.le_trans (show st.next≤st.next+1 by omega) h4⟩
         · cases h
     · cases h
   · cases h
 · cases h
theorem iter_ss {f:St→Option (Exit × St)}(hf : ∀st ex st',f st=some (ex,st')→SS n0 H0 st→SS n0 H0 st'∧st.next≤st'.next) :
 ∀(n:Nat) (st:St) (ex:Exit) (st':St),iter f n st=some (ex,st')→SS n0 H0 st→SS n0 H0 st'∧st.next≤st'.next:=by
 intro n
 induction n with
 | zero=>intro st ex st' h;simp[iter]at h
 | succ n ih =>
    intro st ex st' h hs
    simp only[iter]at h
    split at h
    · rename_i st1 h1
      obtain⟨h2,h3⟩:=hf _ _ _ h1 hs
      obtain⟨h4,h5⟩:=ih _ _ _ h h2
      exact⟨h4,Nat.le_trans h3 h5⟩
    · exact hf _ _ _ h hs
theorem evCode_ss (hcr:CallRest call){ro:Option Nat}{lf:Nat} : ∀(c:Code) (st:St) (ex:Exit) (st':St),evCode P call cf nt n0 ro lf c st=some (ex,st')→SS n0 H0 st→SS n0 H0 st'∧st.next≤st'.next:=by
 intro c
 induction c with
 | skip=>intro st ex st' h hs;simp only[evCode,Option.some.injEq,Prod.mk.injEq]at h;obtain⟨-,rfl⟩:=h;exact⟨hs,Nat.le_refl _⟩
 | label l=>intro st ex st' h hs;simp only[evCode,Option.some.injEq,Prod.mk.injEq]at h;obtain⟨-,rfl⟩:=h;exact⟨hs,Nat.le_refl _⟩
 | exit l=>intro st ex st' h hs;simp only[evCode,Option.some.injEq,Prod.mk.injEq]at h;obtain⟨-,rfl⟩:=h;exact⟨hs,Nat.le_refl _⟩
 | ret=>intro st ex st' h hs;simp only[evCode,Option.some.injEq,Prod.mk.injEq]at h;obtain⟨-,rfl⟩:=h;exact⟨hs,Nat.le_refl _⟩
 | region id ops draw =>
    intro st ex st' h hs
    simp only[evCode,Option.map_eq_some_iff,Prod.mk.injEq]at h
    obtain⟨st1,h1, -,rfl⟩:=h
    exact evRegion_ss hcr h1 hs
 | seq a b iha ihb =>
    intro st ex st' h hs
    simp only[evCode]at h
    split at h
    · rename_i st1 h1
      obtain⟨h2,h3⟩:=iha _ _ _ h1 hs
      obtain⟨h4,h5⟩:=ihb _ _ _ h h2
      exact⟨h4,Nat.le_trans h3 h5⟩
    · exact iha _ _ _ h hs
 | cond c x y ihx ihy =>
    intro st ex st' h hs
    simp only[evCode]at h
    split at h
    · split at h
      · split at h
        · exact ihx _ _ _ h hs
        · exact ihy _ _ _ h hs
      · cases h
    · cases h
 | block id c ih =>
    intro st ex st' h hs
    simp only[evCode]at h
    split at h
    · rename_i id' st1 h1
      have:=ih _ _ _ h1 hs
      split at h<;>(simp only[Option.some.injEq,Prod.mk.injEq]at h;obtain⟨-,rfl⟩:=h;exact this)
    · exact ih _ _ _ h hs
 | loop c ih =>
    intro st ex st' h hs
    simp only[evCode]at h
    exact iter_ss (fun st ex st' h hs=>ih st ex st' h hs) _ _ _ _ h hs
 | rangeFunc f ps assign body _ _ =>
    intro st ex st' h hs
    simp only[evCode]at h
    exact evRange_ss hcr h hs
 | scope c _=>intro st ex st' h;simp[evCode]at h
 | goto l=>intro st ex st' h;simp[evCode]at h
 | refuse s=>intro st ex st' h;simp[evCode]at h
theorem wpIn_loopN {F:Fence}{m:Nat}{c:Code}{Q:Exit→Act→World→Prop}(J:Nat→Act→World→Prop)
 (round : ∀n a w,J n a w→c.wpIn F m P (Exit.then (fun a' w'=>∃j,j<n∧J j a' w') Q) a w) (n:Nat) (a:Act) (w:World) (h:J n a w):(Code.loop c).wpIn F m P Q a w:=by
  intro b k cs hro hb hr
  have key : ∀n a w,J n a w →
   ∃e a' w',Q e a' w'∧ArrivesIn (Machine.fenced P F) P (lone (b.atR a (.code c:: .inLoop c::k)) cs w) b k cs e a' w':=by
   intro n
   induction n using Nat.strongRecOn with
   | _ n ih =>
      intro a w hJ
      obtain⟨e,a₁,w₁,hq,harr⟩:=round n a w hJ b (.inLoop c::k) cs hro hb hr
      cases e with
      | normal =>
         obtain⟨j,hlt,hI₁⟩:=hq
         obtain⟨e₂,a₂,w₂,hq₂,harr₂⟩:=ih j hlt a₁ w₁ hI₁
         exact⟨e₂,a₂,w₂,hq₂, .of_steps (StepsIn.trans harr (.one (fenced_calm hb hr rfl) stepR_inLoop)) harr₂⟩
      | exit id=>exact⟨_,a₁,w₁,hq, .pass (x:= .inLoop c) rfl (fun _ _=> .inl (by simp)) harr⟩
      | goto l=>exact⟨_,a₁,w₁,hq, .pass (x:= .inLoop c) rfl (fun _ _=> .inl (by simp)) harr⟩
      | ret=>exact⟨_,a₁,w₁,hq, .pass (x:= .inLoop c) rfl (fun _ _=> .inl (by simp)) harr⟩
      | panic ch=>exact⟨_,a₁,w₁,hq, .pass (x:= .inLoop c) rfl (fun _ _=> .inl (by simp)) harr⟩
      | outgrown=>exact⟨_,a₁,w₁,hq, .pass (x:= .inLoop c) rfl (fun _ _=> .inl (by simp)) harr⟩
  obtain⟨e,a',w',hq,harr⟩:=key n a w h
  exact⟨e,a',w',hq, .of_steps (.one (fenced_calm hb hr rfl) stepR_loop) harr⟩
end
end Go.Eng
set_option linter.unusedSectionVars false
namespace Go.Eng
open Go
section
variable [Base] {P:Program} {call:Caller} {cf:Cfg} {nt n0:Nat} {H0:Tr VObj} {ρ0:Ren} {w0:World}
theorem SR.newBlock {st:St}{ρ:Ren}{a:Act}{w:World}(h:SR n0 H0 ρ0 w0 nt ρ st a w)(hs:SS n0 H0 st)(hn:st.next<1099511627775)(hfree:ρ0 st.next=none){o:VObj}{ob:Obj}
 (ho:HR1 (upd ρ st.next (w.heap.size,0)) st.next o (w.alloc ob)):SR n0 H0 ρ0 w0 nt (upd ρ st.next (w.heap.size,0)) (newBlock n0 st o) a (w.alloc ob):=by
  have hρ:ρ st.next=none:=by rw[h.post.ren st.next (by omega)];exact hfree
  have ec : ∀n:Nat,(st.next≤n∧n<st.next+1)↔n=st.next:=fun n=>by omega
  have hp:Post ρ st.H.get w (fun n=>st.next≤n∧n<st.next+1) (· ∈ ([]:List Nat)) (upd ρ st.next (w.heap.size,0)) (Tr.put (some o) wide st.H st.next).get (w.alloc ob):=by
   have e2:(fun m=>m∈([]:List Nat))=fun _=>False:=by funext m;simp
   simp only[ec,e2]
   refine Post.fresh hρ h.rel.lt ⟨rfl,rfl,rfl,rfl⟩ fun o' ho'=> ?_
   rw[Tr.get_put' _ _ _ _ hn,if_pos rfl]at ho'
   injection ho' with ho'
   exact ho'▸ho
  exact h.step (out:=⟨undef,Tr.put (some o) wide st.H st.next,st.next+1,[]⟩) (v':=undef) (T:=st.T) hs (fun d hd=>by cases hd)
   ⟨undef_VR,hp,Rest.new hn,Nat.le_succ _⟩ (fun n h1 h2=>by simp only at h2;rw[show n=st.next by omega];exact hfree) (h.tr.mono (upd_sub hρ)) rfl
theorem SR.setLoop {st st':St}{ρ:Ren}{a:Act}{w:World}{l:Nat}{s:LoopState}{pe:Option Code}(h:SR n0 H0 ρ0 w0 nt ρ st a w)(hs:SS n0 H0 st)(hl:setLoop n0 st l s pe=some st') :
 ∃l' k r,ρ l=some (l',k)∧w.heap[l']? = some (.loop r)∧SR n0 H0 ρ0 w0 nt ρ st' a (w.putObj l' (.loop { r with state:=s,pending:=pe})):=by
 unfold Eng.setLoop at hl
 split at hl
 · rename_i s0 pe0 nt0 T0 ps0 as0 bo0 D0 hg
   split at hl
   · rename_i hc
     rw[Bool.and_eq_true]at hc
     have hn:l<1099511627775:=by simpa[nameOk,Nat.blt_eq]using hc.1
     have hlt:l<st.next:=by simpa[Nat.blt_eq]using hc.2
     simp only[Option.some.injEq]at hl;subst hl
     obtain⟨l',k,h1,fn,tmps,D',kD,h2,h3,h4,h5⟩:=h.rel.hr l _ hg
     refine⟨l',k,_,h1,h2,?_⟩
     have hsz:=h.rel.live (by simp[hg,bl]) h1
     have hp:Post ρ st.H.get w (fun n=>st.next≤n∧n<st.next) (· ∈ [l]) ρ (Tr.put (some (VObj.lp s pe nt0 T0 ps0 as0 bo0 D0)) wide st.H l).get
      (w.putObj l' (.loop { state:=s,pending:=pe,fn,tmps,params:=⟨ps0⟩,assign:=as0,body:=bo0,defers:=D'})):=by
       have e1:(fun n=>st.next≤n∧n<st.next)=fun _=>False:=by funext n;simp only[eq_iff_iff,iff_false];omega
       have e2:(fun n=>n∈ [l])=fun n=>n=l:=by funext n;simp
       simp only[e1,e2]
       refine Post.write (o:= .lp s pe nt0 T0 ps0 as0 bo0 D0) h.rel.lt (by simp[hg,wrO]) h1 ⟨fun j hj=>World.putObj_heap_other hj,by simp[World.putObj],rfl,rfl,rfl⟩ (by rw[Tr.get_put' _ _ _ _ hn,if_pos rfl]) ?_
       exact⟨l',k,h1,fn,tmps,D',kD,World.putObj_heap_same hsz,h3,h4,h5⟩
     exact h.step (out:=⟨undef,_,st.next,[l]⟩) (v':=undef) (T:=st.T) hs (fun d hd=>by simp only[List.mem_singleton]at hd;subst hd;exact hlt)
      ⟨undef_VR,hp,rest_put hc.1,Nat.le_refl _⟩ (fun n h1 h2=>by simp only at h2;omega) h.tr rfl
   · cases hl
 · cases hl
theorem evRangeGo_ok (hb0 : ∀n,(H0.get n).isSome→n<n0)(hcr:CallRest call)(hco:CallOk P cf call){B:Nat}(hg0 : ∀g,g<cf.nb→∃k,ρ0 g=some (g,k))(hfree : ∀n,n0≤n→n<B→ρ0 n=none){st st':St}{L g:Nat}{args args':List Value}{ex:Exit}(h:evRangeGo call n0 st L g args=some (ex,st'))
 (hs:SS n0 H0 st) (hB:st'.next≤B) {ρ:Ren} {a:Act} {w:World} (hR:SR n0 H0 ρ0 w0 nt ρ st a w) (ha:VRs ρ args args') {L':Nat} {k:K} (hL:ρ L=some (L',k)) {ro':Option Nat} {Q:Exit→Act→World→Prop}
 (hQ : ∀ρ' a' w',SR n0 H0 ρ0 w0 nt ρ' st' a' w'→Q ex a' w'):CallsIn (FR ro') 0 P g ⟨args'⟩ w (rangePost (FR ro') 0 P L' Q a):=by
  have hss:=evRangeGo_ss (H0:=H0) hcr h hs
  unfold evRangeGo at h
  split at h
  · rename_i out ho
    split at h
    · rename_i hc
      rw[Bool.and_eq_true,List.all_eq_true]at hc
      have hle:st.next≤out.next:=Nat.le_of_ble_eq_true hc.1
      have hdirty : ∀d∈out.dirty,d<st.next:=fun d hd=>by simpa[Nat.blt_eq]using hc.2 d hd
      have h1:=hs.step (T:=st.T) (hcr _ _ _ _ _ ho) hle hdirty
      have hn0:=hs.le
      dsimp only at h
      split at h
      · rename_i s pe nt' T' ps' as' bo' D' hg
        split at h
        · cases h
        · rename_i hnb
          split at h
          · rename_i st'' hset
            have hnext:=(setLoop_ss hset h1).2
            have hst':st''=st':=by
             split at h
             · simp only[Option.some.injEq,Prod.mk.injEq]at h;exact h.2
             · simp only[Option.some.injEq,Prod.mk.injEq]at h;exact h.2
             · simp only[Option.some.injEq,Prod.mk.injEq]at h;exact h.2
             · cases h
            have hout:out.next≤B:=by rw[←hst',hnext]at hB;exact hB
            have hfr : ∀n,st.next≤n→n<out.next→ρ n=none:=fun n g1 g2=>by
             rw[hR.post.ren n (by omega)];exact hfree n (by omega) (by omega)
            refine callsIn_fr (Calls.mono (hco.2 _ _ _ _ _ ho ρ w args' hR.rel (hs.bound hb0) (fun g hgn=>by obtain⟨k,hk⟩:=hg0 g hgn;exact⟨k,hR.post.sub _ _ hk⟩) hfr ha) fun e w1 he=> ?_)
            obtain⟨v',ρ1,rfl,hgood⟩:=he
            have hR1:=hR.step (T:=st.T) hs hdirty hgood (fun n g1 g2=>hfree n (by omega) (by omega)) (hR.tr.mono hgood.post.sub) rfl
            obtain⟨l',kk,r,e1,e2,hR2⟩:=hR1.setLoop h1 hset
            have hL1:=hgood.post.sub _ _ hL
            rw[hL1]at e1
            injection e1 with e1;injection e1 with e1 _;subst e1
            obtain⟨l2,k2,e3,fn,tmps,D2,kD,e4, -⟩:=hR1.rel.hr L _ hg
            have e3':ρ1 L=some (l2,k2):=e3
            rw[hL1]at e3'
            injection e3' with e3';injection e3' with e3' _;subst e3'
            rw[e2]at e4
            injection e4 with e4;injection e4 with e4
            have hns:r.state≠ .busy:=by
             rw[e4];simp only
             intro hb
             exact hnb hb
            have hend:=run_endLoop (P:=P) e2 hns
            have hpe:r.pending=pe:=by rw[e4]
            rw[hpe]at hend
            refine⟨pe,_,hend,?_⟩
            rw[hst']at hR2 h
            split at h
            · simp only[Option.some.injEq,Prod.mk.injEq]at h;obtain⟨rfl, -⟩:=h
              exact hQ _ _ _ hR2
            · simp only[Option.some.injEq,Prod.mk.injEq]at h;obtain⟨rfl, -⟩:=h
              exact wpIn_ret (hQ _ _ _ hR2)
            · simp only[Option.some.injEq,Prod.mk.injEq]at h;obtain⟨rfl, -⟩:=h
              exact wpIn_exit (hQ _ _ _ hR2)
            · cases h
          · cases h
      · cases h
    · cases h
  · cases h
def RoR (ρ:Ren):Option Nat→Option Nat→Prop
 | none,none=>True
 | some l,some l'=>∃k,ρ l=some (l',k)
 | _,_=>False
theorem plainFn_enter {g:FuncId}(hp:plainFn P g=true){args:Array Value}{w:World}:(callFunc g args).run P w = .ok (.enter g args) w:=by
 unfold plainFn at hp
 cases hfn:P.funcs[g]? with
 | none=>simp[hfn]at hp
 | some fn =>
    simp only[hfn,Bool.and_eq_true,Bool.not_eq_true',beq_eq_false_iff_ne]at hp
    obtain⟨hne,hbody⟩:=hp
    have hnb:fn.body≠none:=by intro hbd;simp[hbd]at hbody
    simp[callFunc,hfn,hne,hnb]
theorem evRange_ok (hb0 : ∀n,(H0.get n).isSome→n<n0)(hcr:CallRest call)(hco:CallOk P cf call){B:Nat}(hg : ∀g,g<cf.nb→∃k,ρ0 g=some (g,k))(hfree : ∀n,n0≤n→n<B→ρ0 n=none){ro ro':Option Nat}(hro:RoR ρ0 ro ro')
 {f:Operand} {ps:Array Tmp} {assign body:Code} {st st':St} {ex:Exit} (h:evRange P call cf nt n0 ro f ps assign body st=some (ex,st')) (hs:SS n0 H0 st) (hB:st'.next≤B)
 {ρ:Ren} {a:Act} {w:World} {Q:Exit→Act→World→Prop} (hR:SR n0 H0 ρ0 w0 nt ρ st a w) (hQ : ∀ρ' a' w',SR n0 H0 ρ0 w0 nt ρ' st' a' w'→Q ex a' w') :
 (Code.rangeFunc f ps assign body).wpIn (FR ro') 0 P Q a w:=by
  have hn0:=hs.le
  have hg' : ∀g,g<cf.nb→∃k,ρ g=some (g,k):=fun g hgn=>by
   obtain⟨k,hk⟩:=hg g hgn
   exact⟨k,hR.post.sub _ _ hk⟩
  unfold evRange at h
  split at h
  · rename_i hc
    rw[Bool.and_eq_true]at hc
    have hn:st.next+2<1099511627775:=by simpa[nameOk,Nat.blt_eq]using hc.2
    have hf:=env_ok hR.tr hg' hc.1
    split at h
    · rename_i g first cap hv
      rw[hv]at hf
      obtain⟨first',cap',hv1,hv2,he⟩:=hf.func_inv
      split at h
      · rename_i hp
        have hres : ∀(l:Nat) (W:World),(resolve a.eval (rangeCall f l) 0).run P W = .ok { target:= .fn (.func g) ⟨cap'⟩,args:=⟨first'++ [.func (.yield l) #[] #[]]⟩} W:=fun l W=>by
         have hk : ∀v,a.eval (.const v)=v:=fun _=>rfl
         have e:((⟨first'⟩:Array Value)++ #[.func (.yield l) #[] #[]])=⟨first'++ [.func (.yield l) #[] #[]]⟩:=by rw[←Array.toList_inj];simp
         simp[resolve,he,Deferred.ofValue,hk,e]
        have hinv : ∀(l:Nat) (W:World),(invoke (.fn (.func g) ⟨cap'⟩) ⟨first'++ [.func (.yield l) #[] #[]]⟩).run P W = .ok (.enter g ⟨first'++ [.func (.yield l) #[] #[]]++cap'⟩) W:=fun l W=>by
         have e:((⟨first'++ [.func (.yield l) #[] #[]]⟩:Array Value)++⟨cap'⟩)=⟨first'++ [.func (.yield l) #[] #[]]++cap'⟩:=by rw[←Array.toList_inj];simp
         simp only[invoke,e,plainFn_enter hp]
        cases ro with
        | none =>
           cases ro' with
           | some _=>exact hro.elim
           | none =>
              simp only at h
              have h1:=newBlock_ss (n0:=n0) (H0:=H0) (o:= .other (.deferred (some []))) (show st.next<1099511627775 by omega) hs
              have h1':SS n0 H0 { newBlock n0 st (.other (.deferred (some [])))with df:= .mark st.next::st.df}:=⟨h1.rest,h1.le,h1.old⟩
              have h2:=newBlock_ss (n0:=n0) (H0:=H0) (o:= .lp .ready none nt st.T ps.toList assign body st.next) (st:= { newBlock n0 st (.other (.deferred (some [])))with df:= .mark st.next::st.df})
               (show st.next+1<1099511627775 by omega) h1'
              have hle:=(evRangeGo_ss hcr h h2).2
              have hle':st.next+2≤B:=Nat.le_trans hle hB
              refine wpIn_rangeFunc fun fn _=>⟨w.heap.size+1,[{ target:= .collected w.heap.size,args:= #[]}],_,_,_,g,_,_,run_enterLoop_outer fn a.tmps ps assign body,hres _ _,fun _ _=>trivial,hinv _ _,fun h=>by simp at h,?_⟩
              have hR1:=hR.newBlock hs (show st.next<1099511627775 by omega) (hfree st.next hn0 (by omega)) (o:= .other (.deferred (some []))) (ob:= .deferred (some [])) ⟨_,_,upd_self _ _ _,World.alloc_heap_new _ _⟩
              have hρ:ρ st.next=none:=by rw[hR.post.ren st.next (by omega)];exact hfree st.next hn0 (by omega)
              have hR1':SR n0 H0 ρ0 w0 nt (upd ρ st.next (w.heap.size,0)) { newBlock n0 st (.other (.deferred (some [])))with df:= .mark st.next::st.df}
               { a with defers:= [{ target:= .collected w.heap.size,args:= #[]}]++a.defers} (w.alloc (.deferred (some []))) :=
               ⟨⟨hR1.tr.size,hR1.tr.val⟩, .mark (upd_self _ _ _) (hR.dr.mono (upd_sub hρ)),hR1.rel,hR1.post⟩
              have hρ1:upd ρ st.next (w.heap.size,0) (st.next+1)=none:=by
               rw[upd_ne _ _ (by omega),hR.post.ren (st.next+1) (by omega)];exact hfree _ (by omega) (by omega)
              have hR2:=hR1'.newBlock h1' (show st.next+1<1099511627775 by omega) (hfree (st.next+1) (by omega) (by omega)) (o:= .lp .ready none nt st.T ps.toList assign body st.next)
               (ob:= .loop { state:= .ready,pending:=none,fn,tmps:=a.tmps,params:=ps,assign,body,defers:=w.heap.size})
               ⟨_,_,upd_self _ _ _,fn,a.tmps,w.heap.size,0,World.alloc_heap_new _ _,hR.tr.size,fun t=>(hR1'.tr.val t).mono (upd_sub hρ1),by
                show upd (upd ρ st.next (w.heap.size,0)) (st.next+1) _ st.next=_
                rw[upd_ne _ _ (by omega)];exact upd_self _ _ _⟩
              have hsz:(w.alloc (.deferred (some []))).heap.size=w.heap.size+1:=by simp
              rw[hsz]at hR2
              have hsub:Sub ρ (upd (upd ρ st.next (w.heap.size,0)) (st.next+1) (w.heap.size+1,0)):=fun n x hx=>upd_sub hρ1 _ _ (upd_sub hρ _ _ hx)
              exact evRangeGo_ok (ro':=none) hb0 hcr hco hg hfree h h2 hB hR2 (((hv1.mono hsub).append (.cons (.yield (upd_self _ _ _)) .nil)).append (hv2.mono hsub)) (upd_self _ _ _) hQ
        | some l0 =>
           cases ro' with
           | none=>exact hro.elim
           | some l0' =>
              simp only at h
              split at h
              · rename_i s pe nt2 T2 ps2 as2 bo2 D2 hl0
                obtain⟨k0,hk0⟩:=hro
                have hk0':=hR.post.sub _ _ hk0
                obtain⟨l2,k2,e3,fn2,tmps2,D3,kD,e4,e5,e6,e7⟩:=hR.rel.hr l0 _ hl0
                rw[hk0']at e3
                injection e3 with e3;injection e3 with e3 _;subst e3
                have h2:=newBlock_ss (n0:=n0) (H0:=H0) (o:= .lp .ready none nt st.T ps.toList assign body D2) (show st.next<1099511627775 by omega) hs
                have hle:=(evRangeGo_ss hcr h h2).2
                have hle':st.next+1≤B:=Nat.le_trans hle hB
                have hρ:ρ st.next=none:=by rw[hR.post.ren st.next (by omega)];exact hfree st.next hn0 (by omega)
                refine wpIn_rangeFunc fun fn _=>⟨w.heap.size,[],_,_,_,g,_,_,run_enterLoop_inner e4 fn a.tmps ps assign body,hres _ _,fun _ _=>trivial,hinv _ _,fun h=>by simp at h,?_⟩
                have hR2:=hR.newBlock hs (show st.next<1099511627775 by omega) (hfree st.next hn0 (by omega)) (o:= .lp .ready none nt st.T ps.toList assign body D2)
                 (ob:= .loop { state:= .ready,pending:=none,fn,tmps:=a.tmps,params:=ps,assign,body,defers:=D3})
                 ⟨_,_,upd_self _ _ _,fn,a.tmps,D3,kD,World.alloc_heap_new _ _,hR.tr.size,fun t=>(hR.tr.val t).mono (upd_sub hρ),upd_sub hρ _ _ e7⟩
                exact evRangeGo_ok (ro':=some l0') hb0 hcr hco hg hfree h h2 hB hR2 (((hv1.mono (upd_sub hρ)).append (.cons (.yield (upd_self _ _ _)) .nil)).append (hv2.mono (upd_sub hρ))) (upd_self _ _ _) hQ
              · cases h
      · cases h
    · cases h
  · cases h
theorem evCode_ok (hb0 : ∀n,(H0.get n).isSome→n<n0)(hcr:CallRest call)(hco:CallOk P cf call)(hm:P.follows .mixedOrders=true){B:Nat}(hg : ∀g,g<cf.nb→∃k,ρ0 g=some (g,k))(hfree : ∀n,n0≤n→n<B→ρ0 n=none)
 {ro ro':Option Nat} (hro:RoR ρ0 ro ro') {lf:Nat} : ∀(c:Code) (st:St) (ex:Exit) (st':St),evCode P call cf nt n0 ro lf c st=some (ex,st')→SS n0 H0 st→st'.next≤B →
 ∀(ρ:Ren) (a:Act) (w:World) (Q:Exit→Act→World→Prop),SR n0 H0 ρ0 w0 nt ρ st a w→(∀ρ' a' w',SR n0 H0 ρ0 w0 nt ρ' st' a' w'→Q ex a' w')→c.wpIn (FR ro') 0 P Q a w:=by
 have hro2:ro=none→ro'=none:=fun h=>by subst h;cases ro' with | none=>rfl | some _=>exact hro.elim
 intro c
 induction c with
 | skip=>intro st ex st' h hs hB ρ a w Q hR hQ;simp only[evCode,Option.some.injEq,Prod.mk.injEq]at h;obtain⟨rfl,rfl⟩:=h;exact wpIn_skip (hQ _ _ _ hR)
 | label l=>intro st ex st' h hs hB ρ a w Q hR hQ;simp only[evCode,Option.some.injEq,Prod.mk.injEq]at h;obtain⟨rfl,rfl⟩:=h;exact wpIn_label (hQ _ _ _ hR)
 | exit l=>intro st ex st' h hs hB ρ a w Q hR hQ;simp only[evCode,Option.some.injEq,Prod.mk.injEq]at h;obtain⟨rfl,rfl⟩:=h;exact wpIn_exit (hQ _ _ _ hR)
 | ret=>intro st ex st' h hs hB ρ a w Q hR hQ;simp only[evCode,Option.some.injEq,Prod.mk.injEq]at h;obtain⟨rfl,rfl⟩:=h;exact wpIn_ret (hQ _ _ _ hR)
 | region id ops draw =>
    intro st ex st' h hs hB ρ a w Q hR hQ
    simp only[evCode,Option.map_eq_some_iff,Prod.mk.injEq]at h
    obtain⟨st1,h1,rfl,rfl⟩:=h
    exact evRegion_ok hb0 hcr hco hm hro2 hg hfree h1 hs hB hR hQ
 | seq x y ihx ihy =>
    intro st ex st' h hs hB ρ a w Q hR hQ
    simp only[evCode]at h
    split at h
    · rename_i st1 h1
      obtain⟨h2,h3⟩:=evCode_ss (H0:=H0) hcr _ _ _ _ h1 hs
      obtain⟨h4,h5⟩:=evCode_ss (H0:=H0) hcr _ _ _ _ h h2
      exact wpIn_seq (ihx _ _ _ h1 hs (by omega) ρ a w _ hR fun ρ' a' w' hR'=>ihy _ _ _ h h2 hB ρ' a' w' Q hR' hQ)
    · rename_i hne
      refine wpIn_seq (ihx _ _ _ h hs hB ρ a w _ hR fun ρ' a' w' hR'=> ?_)
      cases ex with
      | normal=>exact absurd h (hne st')
      | _=>exact hQ ρ' a' w' hR'
 | cond c x y ihx ihy =>
    intro st ex st' h hs hB ρ a w Q hR hQ
    simp only[evCode]at h
    split at h
    · rename_i hoc
      have hg' : ∀g,g<cf.nb→∃k,ρ g=some (g,k):=fun g hgn=>by
       obtain⟨k,hk⟩:=hg g hgn
       exact⟨k,hR.post.sub _ _ hk⟩
      have hc:=env_ok hR.tr hg' hoc
      split at h
      · rename_i t hv
        rw[hv]at hc
        refine wpIn_cond hc.bool_inv ?_
        split at h
        · rename_i ht;rw[if_pos ht];exact ihx _ _ _ h hs hB ρ a w Q hR hQ
        · rename_i ht;rw[if_neg ht];exact ihy _ _ _ h hs hB ρ a w Q hR hQ
      · cases h
    · cases h
 | block id c ih =>
    intro st ex st' h hs hB ρ a w Q hR hQ
    simp only[evCode]at h
    split at h
    · rename_i id' st1 h1
      split at h
      · rename_i hid
        simp only[Option.some.injEq,Prod.mk.injEq]at h;obtain⟨rfl,rfl⟩:=h
        refine wpIn_block (ih _ _ _ h1 hs hB ρ a w _ hR fun ρ' a' w' hR'=> ?_)
        simp only[Exit.inBlock,hid,if_true]
        exact hQ ρ' a' w' hR'
      · rename_i hid
        simp only[Option.some.injEq,Prod.mk.injEq]at h;obtain⟨rfl,rfl⟩:=h
        refine wpIn_block (ih _ _ _ h1 hs hB ρ a w _ hR fun ρ' a' w' hR'=> ?_)
        simp only[Exit.inBlock,hid,if_false]
        exact hQ ρ' a' w' hR'
    · rename_i hne
      refine wpIn_block (ih _ _ _ h hs hB ρ a w _ hR fun ρ' a' w' hR'=> ?_)
      cases ex with
      | exit id'=>exact absurd h (hne id' st')
      | _=>exact hQ ρ' a' w' hR'
 | loop c ih =>
    intro st ex st' h hs hB ρ a w Q hR hQ
    simp only[evCode]at h
    refine wpIn_loopN (fun n a w=>∃st1 ρ1,iter (evCode P call cf nt n0 ro lf c) n st1=some (ex,st')∧SS n0 H0 st1∧SR n0 H0 ρ0 w0 nt ρ1 st1 a w) ?_ lf a w ⟨st,ρ,h,hs,hR⟩
    rintro n a1 w1 ⟨st1,ρ1,h1,hs1,hR1⟩
    cases n with
    | zero=>simp[iter]at h1
    | succ n =>
       simp only[iter]at h1
       split at h1
       · rename_i st2 h2
         obtain⟨g1,g2⟩:=evCode_ss (H0:=H0) hcr _ _ _ _ h2 hs1
         obtain⟨g3,g4⟩:=iter_ss (H0:=H0) (fun st ex st' h hs=>evCode_ss hcr c st ex st' h hs) _ _ _ _ h1 g1
         exact ih _ _ _ h2 hs1 (by omega) ρ1 a1 w1 _ hR1 fun ρ' a' w' hR'=>⟨n,Nat.lt_succ_self _,st2,ρ',h1,g1,hR'⟩
       · rename_i hne
         refine ih _ _ _ h1 hs1 hB ρ1 a1 w1 _ hR1 fun ρ' a' w' hR'=> ?_
         cases ex with
         | normal=>exact absurd h1 (hne st')
         | _=>exact hQ ρ' a' w' hR'
 | rangeFunc f ps assign body _ _ =>
    intro st ex st' h hs hB ρ a w Q hR hQ
    simp only[evCode]at h
    exact evRange_ok hb0 hcr hco hg hfree hro h hs hB hR hQ
 | scope c _=>intro st ex st' h;simp[evCode]at h
 | goto l=>intro st ex st' h;simp[evCode]at h
 | refuse s=>intro st ex st' h;simp[evCode]at h
end
end Go.Eng
set_option linter.unusedSectionVars false
namespace Go.Eng
open Go
section
variable (P:Program)
noncomputable def putAll:List Value→Nat→Tr Value→Tr Value
 | [],_,T=>T
 | v::l,i,T=>putAll l (i+1) (Tr.put (some v) wide T i)
noncomputable def resV (T:Tr Value) (H:Tr VObj):List ResultVar→Option (List Value)
 | []=>some []
 | .tmp t::l=>(resV T H l).map (T.val t:: ·)
 | .cell a ty::l =>
    match T.val a with
    | .pointer (some ⟨b,of,none⟩) =>
       match H.get b with
       | some (.row cs _ _ _) =>
          match rowV P ty cs of with
          | some v=>(resV T H l).map (v:: ·)
          | none=>none
       | _=>none
    | _=>none
def oneOf:List Value→Value
 | [v]=>v
 | l=> .tuple ⟨l⟩
noncomputable def evEnter (call:Caller) (cf:Cfg) (lf:Nat) (f:FuncId) (args:List Value) (H:Tr VObj) (next:Nat):Option (Func × St) :=
 match P.funcs[f]? with
 | some fn =>
    match fn.body with
    | some c =>
       if nameOk (args.length+fn.ntmps)then
        match evCode P call cf (max args.length fn.ntmps) next none lf c ⟨putAll args 0 .nil,[],H,next,[]⟩with
        | some (.normal,st)=>some (fn,st)
        | some (.ret,st)=>some (fn,st)
        | _=>none
       else none
    | none=>none
 | none=>none
noncomputable def evLeave (fn:Func) (st:St):Option Out:=(resV P st.T st.H fn.results.toList).map fun vs=>⟨oneOf vs,st.H,st.next,st.dirty⟩
noncomputable def evPlain (call:Caller) (cf:Cfg) (lf:Nat) (f:FuncId) (args:List Value) (H:Tr VObj) (next:Nat):Option Out :=
 match evEnter P call cf lf f args H next with
 | some (fn,st) =>
    match st.df with
    | []=>evLeave P fn st
    | _=>none
 | none=>none
noncomputable def evDfs (call:Caller) (cf:Cfg) (lf n0:Nat):List Df→St→Option St
 | [],st=>some st
 | .mark r::l,st =>
    match st.H.get r with
    | some (.other (.deferred (some [])))=>if nameOk r && Nat.blt r st.next then evDfs call cf lf n0 l (withH n0 st (Tr.put (some (.other (.deferred none))) wide st.H r) st.next [r])else none
    | _=>none
 | .fn g args cap::l,st =>
    if plainFn P g then
     match evPlain P call cf lf g (args++cap) st.H st.next with
     | some out=>if Nat.ble st.next out.next && out.dirty.all (fun d=>Nat.blt d st.next)then evDfs call cf lf n0 l (addOut n0 st st.T out)else none
     | none=>none
    else none
noncomputable def evFn (call:Caller) (cf:Cfg) (lf:Nat) (f:FuncId) (args:List Value) (H:Tr VObj) (next:Nat):Option Out :=
 match evEnter P call cf lf f args H next with
 | some (fn,st) =>
    match evDfs P call cf lf next st.df st with
    | some st'=>evLeave P fn st'
    | none=>none
 | none=>none
noncomputable def putZip:List Tmp→List Value→Tr Value→Tr Value
 | t::ts,v::vs,T=>putZip ts vs (Tr.put (some v) wide T t)
 | _,_,T=>T
noncomputable def evRound (call:Caller) (cf:Cfg) (lf:Nat) (l:Nat) (args:List Value) (H:Tr VObj) (next:Nat):Option Out :=
 match H.get l with
 | some (.lp .ready _ nt T ps assign body _) =>
    if Nat.beq args.length ps.length && ps.all (fun t=>Nat.blt t nt && nameOk t) && nameOk l && Nat.blt l next then
     match evCode P call cf nt next (some l) lf assign ⟨putZip ps args T,[],H,next,[]⟩with
     | some (.normal,st1) =>
        match st1.H.get l with
        | some (.lp .ready pe1 _ _ _ _ _ _) =>
           match setLoop next st1 l .busy pe1 with
           | some st2 =>
              match evCode P call cf nt next (some l) lf body st2 with
              | some (.normal,st3)=>(setLoop next st3 l .ready none).map fun st4=>⟨.bool true,st4.H,st4.next,st4.dirty⟩
              | some (.ret,st3)=>(setLoop next st3 l .done (some .ret)).map fun st4=>⟨.bool false,st4.H,st4.next,st4.dirty⟩
              | some (.exit id,st3)=>(setLoop next st3 l .done (some (.exit id))).map fun st4=>⟨.bool false,st4.H,st4.next,st4.dirty⟩
              | _=>none
           | none=>none
        | _=>none
     | _=>none
    else none
 | _=>none
noncomputable def evCall (cf:Cfg) (lf:Nat):Nat→Caller
 | 0=>fun _ _ _ _=>none
 | d+1=>fun f args H next =>
    match f with
    | .fn f=>evFn P (evCall cf lf d) cf lf f args H next
    | .round l=>evRound P (evCall cf lf d) cf lf l args H next
end
section
variable [Base] {P:Program} {call:Caller} {cf:Cfg} {lf:Nat}
theorem SS.begin {H:Tr VObj}{next:Nat}{T:Tr Value}:SS next H ⟨T,[],H,next,[]⟩:=⟨fun _ _ _=>rfl,Nat.le_refl _,fun _ h=>by cases h⟩
theorem putAll_val : ∀(l:List Value) (i:Nat) (T:Tr Value) (t:Nat),i+l.length<1099511627775→(putAll l i T).val t=if h:i≤t∧t-i<l.length then l[t-i]'h.2 else T.val t
 | [],i,T,t,_=>by simp[putAll]
 | v::l,i,T,t,hl=>by
    simp only[List.length_cons]at hl
    simp only[putAll]
    rw[putAll_val l (i+1) _ t (by omega)]
    by_cases h:i+1≤t∧t-(i+1)<l.length
    · rw[dif_pos h,dif_pos ⟨by omega,by simp;omega⟩]
      have:t-i=(t-(i+1))+1:=by omega
      simp only[this,List.getElem_cons_succ]
    · rw[dif_neg h]
      simp only[Tr.val,Tr.get_put' _ _ _ _ (show i<1099511627775 by omega)]
      by_cases e:t=i
      · subst e
        rw[if_pos rfl,dif_pos ⟨Nat.le_refl _,by simp⟩]
        simp
      · rw[if_neg e,dif_neg (by simp;omega)]
theorem TR.begin {ρ:Ren}{args args':List Value}(h:VRs ρ args args'){n:Nat}(hn:nameOk (args.length+n)=true) :
 TR ρ (max args.length n) (putAll args 0 .nil).val { tmps:=(⟨args'⟩:Array Value)++Array.replicate (n-(⟨args'⟩:Array Value).size) undef,defers:= []}:=by
 have hl:=h.length
 have hn':args.length+n<1099511627775:=by simpa[nameOk,Nat.blt_eq]using hn
 refine⟨by simp;omega,fun t=> ?_⟩
 rw[putAll_val args 0 .nil t (by omega)]
 simp only[Array.getD_eq_getD_getElem?]
 by_cases h1:0≤t∧t-0<args.length
 · rw[dif_pos h1]
   have hlt:t<args.length:=by omega
   obtain⟨v',e1,e2⟩:=h.get (List.getElem?_eq_getElem hlt)
   rw[Array.getElem?_append_left (by simp;omega)]
   simp only[List.getElem?_toArray,e1,Option.getD_some,Nat.sub_zero]
   exact e2
 · rw[dif_neg h1]
   have hge:args.length≤t:=by omega
   rw[Array.getElem?_append_right (by simp;omega)]
   simp only[Array.getElem?_replicate]
   split<;>exact undef_VR
def resF (tmps:Array Value):ResultVar→Sem Value
 | .tmp t=>pure (tmps.getD t undef)
 | .cell x ty=>do loadVar ty (←asAddr (tmps.getD x undef))
theorem resV_ok {ρ:Ren}{nt:Nat}{T:Tr Value}{H:Tr VObj}{a:Act}{w:World}(htr:TR ρ nt T.val a)(R:Rel ρ H.get w) : ∀ {l:List ResultVar} {vs:List Value},resV P T H l=some vs →
 ∃vs',VRs ρ vs vs'∧(l.mapM (resF a.tmps)).run P w = .ok vs' w
 | [],vs,h=>by simp only[resV,Option.some.injEq]at h;subst h;exact⟨[], .nil,by simp⟩
 | .tmp t::l,vs,h=>by
    simp only[resV,Option.map_eq_some_iff]at h
    obtain⟨vs1,h1,rfl⟩:=h
    obtain⟨vs',h2,h3⟩:=resV_ok htr R h1
    refine⟨_::vs', .cons (htr.val t) h2,?_⟩
    rw[List.mapM_cons]
    have ha:(resF a.tmps (.tmp t)).run P w = .ok (a.tmps.getD t undef) w:=rfl
    simp only[Sem.run_bind,ha,Result.andThen_ok,h3,Sem.run_pure]
 | .cell x ty::l,vs,h=>by
    simp only[resV]at h
    split at h
    · rename_i b of hv
      split at h
      · rename_i cs e lo fr hg
        split at h
        · rename_i v hr
          rw[Option.map_eq_some_iff]at h
          obtain⟨vs1,h1,rfl⟩:=h
          obtain⟨vs',h2,h3⟩:=resV_ok htr R h1
          have hx:=htr.val x
          rw[hv]at hx
          obtain⟨b',k,hb,he⟩:=hx.ptr_inv
          obtain⟨b2,k2,c',g1,g2,g3,g4⟩:=(R.hr b _ hg).row
          simp only at hb he
          rw[g1]at hb;injection hb with hb;injection hb with hb _;subst hb
          obtain⟨v',hv',hrun⟩:=rowV_ok hr g2 g3 g4
          refine⟨v'::vs', .cons hv' h2,?_⟩
          rw[List.mapM_cons]
          have ha:(resF a.tmps (.cell x ty)).run P w = .ok v' w:=by
           simp only[resF,Sem.run_bind,he,asAddr,Sem.run_pure,Result.andThen_ok,hrun]
          simp only[Sem.run_bind,ha,Result.andThen_ok,h3,Sem.run_pure]
        · cases h
      · cases h
    · cases h
theorem oneOf_ok {ρ:Ren}{vs vs':List Value}(h:VRs ρ vs vs'):VR ρ (oneOf vs) (oneOf vs'):=by
 cases h with
 | nil=>exact .tuple .nil
 | cons h t =>
    cases t with
    | nil=>exact h
    | cons h2 t=>exact .tuple (.cons h (.cons h2 t))
theorem results_ok {ρ:Ren}{nt:Nat}{fn:Func}{st:St}{a:Act}{w:World}{vs:List Value}(htr:TR ρ nt st.T.val a)(R:Rel ρ st.H.get w)(h:resV P st.T st.H fn.results.toList=some vs) :
 ∃v',VR ρ (oneOf vs) v'∧(results fn a.tmps).run P w = .ok v' w:=by
 obtain⟨vs',h1,h2⟩:=resV_ok (P:=P) htr R h
 refine⟨oneOf vs',oneOf_ok h1,?_⟩
 have e:results fn a.tmps=(do
  let vs ←fn.results.mapM (resF a.tmps)
  pure (if h:vs.size=1 then vs[0]else .tuple vs)):=rfl
 rw[e]
 simp only[Array.mapM_eq_mapM_toList,map_eq_pure_bind,bind_assoc,pure_bind,Sem.run_bind,h2,Result.andThen_ok,Sem.run_pure]
 match vs' with
 | []=>rfl
 | [v]=>rfl
 | v::u::l=>rfl
end
end Go.Eng
