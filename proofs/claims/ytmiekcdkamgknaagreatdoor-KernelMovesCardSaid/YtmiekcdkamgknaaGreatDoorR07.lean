import Derived.Test.YtmiekcdkamgknaaGreatDoorR06
set_option linter.unusedSectionVars false
namespace Go.Eng
open Go
section
variable [Base] {P:Program} {ρ:Ren}
theorem Good.bound {H:Tr VObj}{next:Nat}{w w':World}{out:Out}{v':Value}{ρ':Ren}(g:Good ρ H next w out v' ρ' w')(hb : ∀n,(H.get n).isSome→n<next) :
 ∀n,(out.H.get n).isSome→n<out.next:=fun n hn=>by
 by_cases h1:next≤n∧n<out.next
 · exact h1.2
 · by_cases h2:n∈out.dirty
   · exact Nat.lt_of_lt_of_le (hb n (wr_some (g.post.live n h2))) g.le
   · rw[g.rest n h1 h2]at hn;exact Nat.lt_of_lt_of_le (hb n hn) g.le
inductive OpIs (P:Program) (cf:Cfg) (call:Caller) (E:Operand→Value) (H:Tr VObj) (next:Nat) (o:Oper):Out→Kd→Prop
 | p {v:Value} (h:evP P cf.nb E o=some v):OpIs P cf call E H next o ⟨v,H,next,[]⟩ .p
 | r {v:Value} {n:Nat} (h:evR P E H o=some (v,n)):OpIs P cf call E H next o ⟨v,H,next,[]⟩ (.r n)
 | l {v:Value} {n:Nat} (h:evL P E H o=some (v,n)):OpIs P cf call E H next o ⟨v,H,next,[]⟩ (.r n)
 | a {v:Value} {ob:VObj} (h:evA P E next o=some (v,ob)) (hn:next<1099511627775):OpIs P cf call E H next o ⟨v,Tr.put (some ob) wide H next,next+1,[]⟩ .a
 | s {out:Out} (h:evS P E H next o=some out):OpIs P cf call E H next o out .e
 | x {out:Out} (h:evX P E H next o=some out):OpIs P cf call E H next o out .e
 | m {v:Value} (h:memo cf E o=some v):OpIs P cf call E H next o ⟨v,H,next,[]⟩ .p
 | xq {k:XK} {args:List Value} {v:Value} (hk:xkOf cf E o=some (k,args)) (h:xQ P cf k args=some v):OpIs P cf call E H next o ⟨v,H,next,[]⟩ .p
 | xr {k:XK} {args:List Value} {v:Value} {n:Nat} (hk:xkOf cf E o=some (k,args)) (h:xR P cf k args H=some (v,n)):OpIs P cf call E H next o ⟨v,H,next,[]⟩ (.r n)
 | xa {k:XK} {args:List Value} {v:Value} {ob:VObj} (hk:xkOf cf E o=some (k,args)) (h:xA cf k args next=some (v,ob)) (hn:next<1099511627775):OpIs P cf call E H next o ⟨v,Tr.put (some ob) wide H next,next+1,[]⟩ .a
 | xs {k:XK} {args:List Value} {out:Out} (hk:xkOf cf E o=some (k,args)) (h:xS P cf k args H next=some out):OpIs P cf call E H next o out .e
 | t {v:Value} {n:Nat} (h:evT cf E H o=some (v,n)):OpIs P cf call E H next o ⟨v,H,next,[]⟩ (.r n)
 | c {out:Out} {f:Tgt} {args:List Value} (h:evCallee P cf E o=some (f,args)) (hc:call f args H next=some out):OpIs P cf call E H next o out .e
theorem evSlow_is {cf:Cfg}{call:Caller}{E:Operand→Value}{H:Tr VObj}{next:Nat}{o:Oper}{out:Out}{kd:Kd}(h:evSlow P cf call E H next o=some (out,kd)) :
 (∀c,o.op≠ .defer c)∧OpIs P cf call E H next o out kd:=by
  unfold evSlow at h
  split at h
  · cases h
  · rename_i hd
    refine⟨fun c hc=>hd (by rw[hc];rfl),?_⟩
    split at h
    · rename_i k args hk
      split at h
      · rename_i v hv
        simp only[Option.some.injEq,Prod.mk.injEq]at h;obtain⟨rfl,rfl⟩:=h;exact .xq hk hv
      · split at h
        · rename_i v n hv
          simp only[Option.some.injEq,Prod.mk.injEq]at h;obtain⟨rfl,rfl⟩:=h;exact .xr hk hv
        · split at h
          · rename_i v ob hv
            split at h
            · rename_i hn
              simp only[Option.some.injEq,Prod.mk.injEq]at h;obtain⟨rfl,rfl⟩:=h;exact .xa hk hv hn
            · cases h
          · split at h
            · rename_i o' hv
              simp only[Option.some.injEq,Prod.mk.injEq]at h;obtain⟨rfl,rfl⟩:=h;exact .xs hk hv
            · cases h
    · split at h
      · rename_i v hv
        simp only[Option.some.injEq,Prod.mk.injEq]at h;obtain⟨rfl,rfl⟩:=h;exact .m hv
      · skip
        split at h
        · rename_i v hv
          simp only[Option.some.injEq,Prod.mk.injEq]at h;obtain⟨rfl,rfl⟩:=h;exact .p hv
        · split at h
          · rename_i v n hv
            simp only[Option.some.injEq,Prod.mk.injEq]at h;obtain⟨rfl,rfl⟩:=h;exact .r hv
          · split at h
            · rename_i v n hv
              simp only[Option.some.injEq,Prod.mk.injEq]at h;obtain⟨rfl,rfl⟩:=h;exact .l hv
            · split at h
              · rename_i v ob hv
                split at h
                · rename_i hn
                  simp only[Option.some.injEq,Prod.mk.injEq]at h;obtain⟨rfl,rfl⟩:=h;exact .a hv hn
                · cases h
              · split at h
                · rename_i o' hv
                  simp only[Option.some.injEq,Prod.mk.injEq]at h;obtain⟨rfl,rfl⟩:=h;exact .s hv
                · split at h
                  · rename_i o' hv
                    simp only[Option.some.injEq,Prod.mk.injEq]at h;obtain⟨rfl,rfl⟩:=h;exact .x hv
                  · split at h
                    · rename_i v n hv
                      simp only[Option.some.injEq,Prod.mk.injEq]at h;obtain⟨rfl,rfl⟩:=h;exact .t hv
                    split at h
                    · rename_i f args hv
                      rw[Option.map_eq_some_iff]at h
                      obtain⟨o',ho,he⟩:=h
                      simp only[Prod.mk.injEq]at he;obtain⟨rfl,rfl⟩:=he;exact .c hv ho
                    · cases h
theorem evP_of_struct {nb:Nat}{E:Operand→Value}{o:Oper}{v:Value}(hc:cls o.op = .st)(h:structV P E o.op=some v):evP P nb E o=some v:=by
 have hf:fastInt P E o.op=none:=by
  unfold fastInt
  split
  · rename_i hb;rw[hb]at hc;simp[cls]at hc
  · rfl
 simp only[evP,hf,h]
theorem evP_of_fast {nb:Nat}{E:Operand→Value}{o:Oper}{v:Value}(h:fastInt P E o.op=some v)(hf:fixd nb 8 v=true):evP P nb E o=some v:=by
 simp only[evP,h,hf,if_true]
theorem evOp_is {cf:Cfg}{call:Caller}{E:Operand→Value}{H:Tr VObj}{next:Nat}{o:Oper}{out:Out}{kd:Kd}(h:evOp P cf call E H next o=some (out,kd)) :
 (∀c,o.op≠ .defer c)∧OpIs P cf call E H next o out kd:=by
  unfold evOp at h
  split at h
  · rename_i hc
    split at h
    · rename_i v hv
      simp only[Option.some.injEq,Prod.mk.injEq]at h;obtain⟨rfl,rfl⟩:=h
      exact⟨fun c e=>by rw[e]at hc;simp[cls]at hc, .p (evP_of_struct hc hv)⟩
    · exact evSlow_is h
  · rename_i hc
    split at h
    · rename_i v hv
      split at h
      · rename_i hf
        simp only[Option.some.injEq,Prod.mk.injEq]at h;obtain⟨rfl,rfl⟩:=h
        exact⟨fun c e=>by rw[e]at hc;simp[cls]at hc, .p (evP_of_fast hv hf)⟩
      · cases h
    · exact evSlow_is h
  · rename_i hc
    split at h
    · rename_i v n hv
      simp only[Option.some.injEq,Prod.mk.injEq]at h;obtain⟨rfl,rfl⟩:=h
      exact⟨fun c e=>by rw[e]at hc;simp[cls]at hc, .r hv⟩
    · exact evSlow_is h
  · rename_i hc
    split at h
    · rename_i o' hv
      simp only[Option.some.injEq,Prod.mk.injEq]at h;obtain⟨rfl,rfl⟩:=h
      exact⟨fun c e=>by rw[e]at hc;simp[cls]at hc, .s hv⟩
    · exact evSlow_is h
  · rename_i hc
    split at h
    · rename_i v ob hv
      split at h
      · rename_i hn
        simp only[Option.some.injEq,Prod.mk.injEq]at h;obtain⟨rfl,rfl⟩:=h
        exact⟨fun c e=>by rw[e]at hc;simp[cls]at hc, .a hv hn⟩
      · cases h
    · exact evSlow_is h
  · rename_i hc
    split at h
    · exact evSlow_is h
    · split at h
      · rename_i f args hv
        rw[Option.map_eq_some_iff]at h
        obtain⟨o',ho,he⟩:=h
        simp only[Prod.mk.injEq]at he;obtain⟨rfl,rfl⟩:=he
        exact⟨fun c e=>by rw[e]at hc;simp[cls]at hc, .c hv ho⟩
      · exact evSlow_is h
  · exact evSlow_is h
theorem Post.refl' {H:Nat→Option VObj}{w:World}{C D:Nat→Prop}(hC : ∀n,¬C n)(hD : ∀n,¬D n)(hlt:LT ρ w):Post ρ H w C D ρ H w where
 ren _ _:=rfl
 lt:=hlt
 hr n o hn:=by rcases hn with h | h;exact absurd h (hC n);exact absurd h (hD n)
 new n b k hn:=by rcases hn with h | h;exact absurd h (hC n);exact absurd h (hD n)
 inj n m b k k' hn:=by rcases hn with h | h;exact absurd h (hC n);exact absurd h (hD n)
 frame _ _ _:=rfl
 live d hd:=absurd hd (hD d)
 free n hn:=absurd hn (hC n)
 os:=rfl
 tape:=rfl
 output:=rfl
 size:=Nat.le_refl _
theorem Good.still {H:Tr VObj}{next:Nat}{w:World}{v v':Value}(hv:VR ρ v v')(hlt:LT ρ w):Good ρ H next w ⟨v,H,next,[]⟩ v' ρ w :=
 ⟨hv,Post.refl' (fun n h=>by simp only at h;omega) (fun n h=>by simp at h) hlt,fun _ _ _=>rfl,Nat.le_refl _⟩
theorem OpIs.still {cf:Cfg}{call:Caller}{E:Operand→Value}{H:Tr VObj}{next:Nat}{o:Oper}{out:Out}{kd:Kd}(h:OpIs P cf call E H next o out kd)(hX:XOk P cf)(hk:kd = .p∨∃n,kd = .r n)(hg:Fixes ρ cf.nb){a:Act}{w:World}
 (hE : ∀x∈o.op.operands,VR ρ (E x) (a.eval x)) (hH : ∀n,kd = .r n→∀ob,H.get n=some ob→HR1 ρ n ob w) :
 out.H=H∧out.next=next∧out.dirty = []∧∃v',VR ρ out.v v'∧(execOp a.eval o).run P w = .ok (.value v') w:=by
 cases h with
 | p h=>obtain⟨v',h1,h2⟩:=evP_ok hg h hE;exact⟨rfl,rfl,rfl,v',h1,h2 w⟩
 | r h=>obtain⟨-,v',h1,h2⟩:=evR_ok h hE (hH _ rfl);exact⟨rfl,rfl,rfl,v',h1,h2⟩
 | l h=>obtain⟨-,v',h1,h2⟩:=evL_ok h hE (hH _ rfl);exact⟨rfl,rfl,rfl,v',h1,h2⟩
 | t h=>obtain⟨-,v',h1,h2⟩:=evT_ok hX.2.2.2 h hE (hH _ rfl);exact⟨rfl,rfl,rfl,v',h1,h2⟩
 | m h =>
    obtain⟨h1,h2⟩:=memo_ok hX hg h hE
    exact⟨rfl,rfl,rfl,_,h1,h2 w⟩
 | xq hk' h =>
    obtain⟨args',ha,hrun⟩:=xkOf_ok hX hk' hE
    obtain⟨v',h1,h2⟩:=xQ_ok hX hg h ha
    exact⟨rfl,rfl,rfl,v',h1,by rw[hrun,h2];rfl⟩
 | xr hk' h =>
    obtain⟨args',ha,hrun⟩:=xkOf_ok hX hk' hE
    obtain⟨-,v',h1,h2⟩:=xR_ok hX hg h ha (hH _ rfl)
    exact⟨rfl,rfl,rfl,v',h1,by rw[hrun,h2];rfl⟩
 | _=>rcases hk with hk | ⟨n,hk⟩<;>cases hk
theorem OpIs.alloc {cf:Cfg}{call:Caller}{E:Operand→Value}{H:Tr VObj}{next:Nat}{o:Oper}{out:Out}(h:OpIs P cf call E H next o out .a)(hX:XOk P cf)(hg:Fixes ρ cf.nb){a:Act}{w:World}
 (hE : ∀x∈o.op.operands,VR ρ (E x) (a.eval x)) (hlt:LT ρ w) (hfree : ∀n,next≤n→n<out.next→ρ n=none) :
 ∃v' w' ρ',Good ρ H next w out v' ρ' w'∧(execOp a.eval o).run P w = .ok (.value v') w':=by
 cases h with
 | a h hn =>
    have ec : ∀n:Nat,(next≤n∧n<next+1)↔n=next:=fun n=>by omega
    obtain⟨v',w',ρ',h1,h2,h3⟩:=evA_ok (H:=H.get) (H':=(Tr.put _ wide H next).get) h hE (hfree next (Nat.le_refl _) (Nat.lt_succ_self _)) hlt (by rw[Tr.get_put' _ _ _ _ hn,if_pos rfl])
    refine⟨v',w',ρ',⟨h1,?_,?_,Nat.le_succ _⟩,h3⟩
    · have e2:(fun m=>m∈([]:List Nat))=fun _=>False:=by funext m;simp
      simp only[ec,e2];exact h2
    · intro n hn' _
      rw[Tr.get_put' _ _ _ _ hn,if_neg fun e=>hn' ((ec n).2 e)]
 | xa hk' h hn =>
    have ec : ∀n:Nat,(next≤n∧n<next+1)↔n=next:=fun n=>by omega
    obtain⟨args',ha,hrun⟩:=xkOf_ok hX hk' hE
    obtain⟨v',w',ρ',h1,h2,h3⟩:=xA_ok (H:=H.get) (H':=(Tr.put _ wide H next).get) hX (fun ρ' hs g hgn=>by obtain⟨k,hk⟩:=hg g hgn;exact⟨k,hs _ _ hk⟩) h ha (hfree next (Nat.le_refl _) (Nat.lt_succ_self _)) hlt (by rw[Tr.get_put' _ _ _ _ hn,if_pos rfl])
    have e2:(fun m=>m∈([]:List Nat))=fun _=>False:=by funext m;simp
    refine⟨v',w',ρ',⟨h1,by simp only[ec,e2];exact h2,?_,Nat.le_succ _⟩,by rw[hrun,h3];rfl⟩
    intro n hn' _
    rw[Tr.get_put' _ _ _ _ hn,if_neg fun e=>hn' ((ec n).2 e)]
theorem OpIs.alloc' {cf:Cfg}{call:Caller}{E:Operand→Value}{H:Tr VObj}{G:Nat→Option VObj}{next:Nat}{o:Oper}{out:Out}(h:OpIs P cf call E H next o out .a)(hX:XOk P cf)(hg:Fixes ρ cf.nb){a:Act}{w:World}
 (hE : ∀x∈o.op.operands,VR ρ (E x) (a.eval x)) (hlt:LT ρ w) (hfree : ∀n,next≤n→n<out.next→ρ n=none) :
 ∃v' w' ρ',VR ρ' out.v v'∧Post ρ G w (fun n=>next≤n∧n<out.next) (· ∈ out.dirty) ρ' out.H.get w'∧(execOp a.eval o).run P w = .ok (.value v') w':=by
 cases h with
 | a h hn =>
    have ec : ∀n:Nat,(next≤n∧n<next+1)↔n=next:=fun n=>by omega
    obtain⟨v',w',ρ',h1,h2,h3⟩:=evA_ok (H:=G) (H':=(Tr.put _ wide H next).get) h hE (hfree next (Nat.le_refl _) (Nat.lt_succ_self _)) hlt (by rw[Tr.get_put' _ _ _ _ hn,if_pos rfl])
    refine⟨v',w',ρ',h1,?_,h3⟩
    have e2:(fun m=>m∈([]:List Nat))=fun _=>False:=by funext m;simp
    simp only[ec,e2];exact h2
 | xa hk' h hn =>
    have ec : ∀n:Nat,(next≤n∧n<next+1)↔n=next:=fun n=>by omega
    obtain⟨args',ha,hrun⟩:=xkOf_ok hX hk' hE
    obtain⟨v',w',ρ',h1,h2,h3⟩:=xA_ok (H:=G) (H':=(Tr.put _ wide H next).get) hX (fun ρ' hs g hgn=>by obtain⟨k,hk⟩:=hg g hgn;exact⟨k,hs _ _ hk⟩) h ha (hfree next (Nat.le_refl _) (Nat.lt_succ_self _)) hlt (by rw[Tr.get_put' _ _ _ _ hn,if_pos rfl])
    have e2:(fun m=>m∈([]:List Nat))=fun _=>False:=by funext m;simp
    exact⟨v',w',ρ',h1,by simp only[ec,e2];exact h2,by rw[hrun,h3];rfl⟩
theorem Rel.sub {H G:Nat→Option VObj}{w:World}(h:Rel ρ H w)(hG : ∀n,(G n).isSome→G n=H n):Rel ρ G w where
 hr n o ho:=h.hr n o (by rw[←hG n (by simp[ho])];exact ho)
 inj n m b k k' hn hm:=h.inj n m b k k' (by rw[←hG n (bl_some hn)];exact hn) (by rw[←hG m (bl_some hm)];exact hm)
 lt:=h.lt
 own n b k hn:=h.own n b k (by rw[←hG n (wr_some hn)];exact hn)
theorem OpIs.all {cf:Cfg}{call:Caller}(hc:CallOk P cf call){E:Operand→Value}{H:Tr VObj}{next:Nat}{o:Oper}{out:Out}{kd:Kd}(h:OpIs P cf call E H next o out kd){ro:Option Nat}{a:Act}{w:World}
 (hd : ∀c,o.op≠ .defer c) (hE : ∀x∈o.op.operands,VR ρ (E x) (a.eval x)) (R:Rel ρ H.get w) (hb : ∀n,(H.get n).isSome→n<next) (hg : ∀g,g<cf.nb→∃k,ρ g=some (g,k)) (hfree : ∀n,next≤n→n<out.next→ρ n=none)
 {K:Act→World→Prop} {Q:Exit→Act→World→Prop} (hK : ∀v' w' ρ',Good ρ H next w out v' ρ' w'→K (a.put o.dst v') w'):o.wpIn (FR ro) 0 P a w K Q:=by
 cases h with
 | p h =>
    obtain⟨-, -, -,v',h1,h2⟩:=OpIs.still (cf:=cf) (OpIs.p (call:=call) (H:=H) (next:=next) h) hc.1 (.inl rfl) hg hE (fun n hn=>by cases hn) (w:=w)
    exact wpIn_value hd h2 (hK v' w ρ (.still h1 R.lt))
 | r h =>
    obtain⟨-, -, -,v',h1,h2⟩:=OpIs.still (cf:=cf) (OpIs.r (call:=call) (next:=next) h) hc.1 (.inr ⟨_,rfl⟩) hg hE (fun n hn ob hob=>R.hr n ob hob) (w:=w)
    exact wpIn_value hd h2 (hK v' w ρ (.still h1 R.lt))
 | l h =>
    obtain⟨-, -, -,v',h1,h2⟩:=OpIs.still (cf:=cf) (OpIs.l (call:=call) (next:=next) h) hc.1 (.inr ⟨_,rfl⟩) hg hE (fun n hn ob hob=>R.hr n ob hob) (w:=w)
    exact wpIn_value hd h2 (hK v' w ρ (.still h1 R.lt))
 | a h hn =>
    obtain⟨v',w',ρ',h1,h2⟩:=OpIs.alloc (cf:=cf) (OpIs.a (call:=call) (H:=H) h hn) hc.1 hg hE R.lt hfree
    exact wpIn_value hd h2 (hK v' w' ρ' h1)
 | s h =>
    obtain⟨v',w',h1,h2,h3,h4,h5,rfl⟩:=evS_ok h hE R
    exact wpIn_skipped hd h5 (hK _ w' ρ ⟨h1,h2,h3,h4⟩)
 | x h =>
    obtain⟨v',w',ρ',h1,h2,h3,h4,h5⟩:=evX_ok h hE R hfree
    rcases h5 with h5 | ⟨h5,rfl⟩
    · exact wpIn_value hd h5 (hK v' w' ρ' ⟨h1,h2,h3,h4⟩)
    · exact wpIn_skipped hd h5 (hK _ w' ρ' ⟨h1,h2,h3,h4⟩)
 | m h =>
    obtain⟨-, -, -,v',h1,h2⟩:=OpIs.still (cf:=cf) (OpIs.m (call:=call) (H:=H) (next:=next) h) hc.1 (.inl rfl) hg hE (fun n hn=>by cases hn) (w:=w)
    exact wpIn_value hd h2 (hK v' w ρ (.still h1 R.lt))
 | xq hk h =>
    obtain⟨-, -, -,v',h1,h2⟩:=OpIs.still (cf:=cf) (OpIs.xq (call:=call) (H:=H) (next:=next) hk h) hc.1 (.inl rfl) hg hE (fun n hn=>by cases hn) (w:=w)
    exact wpIn_value hd h2 (hK v' w ρ (.still h1 R.lt))
 | t h =>
    obtain⟨-, -, -,v',h1,h2⟩:=OpIs.still (cf:=cf) (OpIs.t (call:=call) (next:=next) h) hc.1 (.inr ⟨_,rfl⟩) hg hE (fun n hn ob hob=>R.hr n ob hob) (w:=w)
    exact wpIn_value hd h2 (hK v' w ρ (.still h1 R.lt))
 | xr hk h =>
    obtain⟨-, -, -,v',h1,h2⟩:=OpIs.still (cf:=cf) (OpIs.xr (call:=call) (next:=next) hk h) hc.1 (.inr ⟨_,rfl⟩) hg hE (fun n hn ob hob=>R.hr n ob hob) (w:=w)
    exact wpIn_value hd h2 (hK v' w ρ (.still h1 R.lt))
 | xa hk h hn =>
    obtain⟨v',w',ρ',h1,h2⟩:=OpIs.alloc (cf:=cf) (OpIs.xa (call:=call) (H:=H) hk h hn) hc.1 hg hE R.lt hfree
    exact wpIn_value hd h2 (hK v' w' ρ' h1)
 | xs hk h =>
    obtain⟨args',ha,hrun⟩:=xkOf_ok hc.1 hk hE
    obtain⟨v',w',h1,h2,h3,h4,h5⟩:=xS_ok hc.1 hg h ha R
    exact wpIn_value hd (by rw[hrun,h5];rfl) (hK v' w' ρ ⟨h1,h2,h3,h4⟩)
 | c h hcall=>exact evCallee_ok hc h hcall hE R hb hg hfree hK
inductive Df where
 | fn (g:FuncId) (args cap:List Value)
 | mark (r:Nat)
structure St where
 T:Tr Value
 df:List Df
 H:Tr VObj
 next:Nat
 dirty:List Nat
inductive DR (ρ:Ren):List Df→List Deferred→Prop
 | nil:DR ρ [] []
 | fn {g:FuncId} {args args' cap cap':List Value} {l:List Df} {l':List Deferred} (h:VRs ρ args args') (hc:VRs ρ cap cap') (t:DR ρ l l') :
    DR ρ (.fn g args cap::l) ({ target:= .fn (.func g) ⟨cap'⟩,args:=⟨args'⟩}::l')
 | mark {r r':Nat} {k:K} {l:List Df} {l':List Deferred} (h:ρ r=some (r',k)) (t:DR ρ l l'):DR ρ (.mark r::l) ({ target:= .collected r',args:= #[]}::l')
theorem DR.mono {ρ ρ':Ren}(hs:Sub ρ ρ'){l:List Df}{l':List Deferred}(h:DR ρ l l'):DR ρ' l l':=by
 induction h with
 | nil=>exact .nil
 | fn h hc _ ih=>exact .fn (h.mono hs) (hc.mono hs) ih
 | mark h _ ih=>exact .mark (hs _ _ h) ih
noncomputable def Tr.val (T:Tr Value) (t:Nat):Value:=(T.get t).getD undef
structure TR (ρ:Ren) (nt:Nat) (T:Nat→Value) (a:Act):Prop where
 size:a.tmps.size=nt
 val : ∀t,VR ρ (T t) (a.tmps.getD t undef)
theorem TR.mono {ρ ρ':Ren}(hs:Sub ρ ρ'){nt:Nat}{T:Nat→Value}{a:Act}(h:TR ρ nt T a):TR ρ' nt T a:=⟨h.size,fun t=>(h.val t).mono hs⟩
def okOperand (nb:Nat):Operand→Bool
 | .const v=>flat 8 v
 | .global g=>Nat.blt g nb
 | _=>true
noncomputable def env (T:Tr Value):Operand→Value
 | .tmp t=>T.val t
 | .const v=>v
 | .global g=> .pointer (some ⟨g,0,none⟩)
 | .func f=> .func (.func f) #[] #[]
theorem env_ok {cf:Cfg}{nt:Nat}{T:Tr Value}{a:Act}(h:TR ρ nt T.val a)(hg : ∀g,g<cf.nb→∃k,ρ g=some (g,k)){x:Operand}(hx:okOperand cf.nb x=true):VR ρ (env T x) (a.eval x):=by
 cases x with
 | tmp t=>exact h.val t
 | const v=>exact VR.of_flat 8 v hx
 | global g =>
    obtain⟨k,hk⟩:=hg g (by simpa[okOperand,Nat.blt_eq]using hx)
    exact .ptr hk
 | func f=>exact .func rfl .nil .nil
theorem undef_VR {ρ:Ren}:VR ρ undef undef:= .tuple .nil
theorem TR.put {nt:Nat}{T:Nat→Value}{a:Act}(h:TR ρ nt T a){v v':Value}(hv:VR ρ v v'){d:Nat}(hd:d<nt):TR ρ nt (fun t=>if t=d then v else T t) (a.put (some d) v'):=by
 refine⟨by simp[Act.put,h.size],fun t=> ?_⟩
 simp only[Act.put]
 by_cases e:t=d
 · subst e
   rw[if_pos rfl]
   have:t<a.tmps.size:=by rw[h.size];exact hd
   simp[Array.getD,this]
   exact hv
 · rw[if_neg e]
   have:=h.val t
   simp only[Array.getD_eq_getD_getElem?]at this ⊢
   rw[Array.getElem?_setIfInBounds_ne (Ne.symm e)]
   exact this
end
end Go.Eng
set_option linter.unusedSectionVars false
namespace Go.Eng
open Go
structure Rc where
 i:Nat
 anc:List Nat
 o:Oper
 T:Tr Value
 H:Tr VObj
 next:Nat
 out:Out
 kd:Kd
 ran:Bool
section
variable (P:Program)
def tmpsOf (ops:Array Oper)(o:Oper):List Tmp:=o.looksAt ops
def tmpApart (ops:Array Oper)(r:Rc)(o:Oper):Bool :=
 (match r.o.dst with
   | some d=> !(tmpsOf ops o).contains d && !(o.dst == some d)
   | none=>true) &&
 (match o.dst with
   | some d=> !(tmpsOf ops r.o).contains d
   | none=>true)
def heapApart (r:Rc)(out:Out)(kd:Kd):Bool :=
 match r.kd,kd with
 | .p,_=>true
 | _, .p=>true
 | .r _, .r _=>true
 | .r _, .a=>true
 | .a, .r n=> !(Nat.beq n r.next)
 | .a, .a=>true
 | .r n, .e=> !out.dirty.contains n
 | .e, .r n=> !r.out.dirty.contains n && !(Nat.ble r.next n && Nat.blt n r.out.next)
 | .e, .a=>true
 | .a, .e=>false
 | .e, .e=>false
def ancOf (acc:List Rc)(j:Nat):List Nat :=
 match acc.find? (fun r=>Nat.beq r.i j)with
 | some r=>r.anc
 | none=> []
def nubGo:List Nat→Nat→List Nat
 | [],_=> []
 | x::l,m=>if Nat.testBit m x then nubGo l m else x::nubGo l (Nat.lor m (Nat.shiftLeft 1 x))
theorem mem_nubGo {x:Nat} : ∀ {l:List Nat} {m:Nat},x∈nubGo l m→x∈l
 | [],_,h=>by simp[nubGo]at h
 | y::l,m,h=>by
    unfold nubGo at h
    split at h
    · exact List.mem_cons_of_mem _ (mem_nubGo h)
    · rcases List.mem_cons.1 h with rfl | h
      · exact List.mem_cons_self
      · exact List.mem_cons_of_mem _ (mem_nubGo h)
def ancsOf (acc:List Rc)(o:Oper):List Nat:=nubGo (o.after.toList.flatMap fun e=>if Region.binds .any e then e.on::ancOf acc e.on else[]) 0
noncomputable def yieldV (nt:Nat) (ops:Array Oper) (T:Tr Value) (j:Nat):Option Bool :=
 match (ops[j]?).bind (·.dst)with
 | some d =>
    if d<nt then
     match T.val d with
     | .bool b=>some b
     | _=>none
    else none
 | none=>none
noncomputable def wantV (nt:Nat) (ops:Array Oper) (T:Tr Value) (o:Oper):Bool :=
 match o.guard with
 | none=>true
 | some (j,want)=>yieldV nt ops T j == some want
noncomputable def putT (T:Tr Value) (dst:Option Nat) (v:Value):Tr Value :=
 match dst with
 | some d=>Tr.put (some v) wide T d
 | none=>T
def dstOk (nt:Nat)(dst:Option Nat):Bool :=
 match dst with
 | some d=>Nat.blt d nt && Nat.blt d 1099511627775
 | none=>true
noncomputable def evOne (call:Caller) (cf:Cfg) (nt:Nat) (ops:Array Oper) (T:Tr Value) (H:Tr VObj) (next:Nat) (o:Oper):Option (Out × Kd × Bool) :=
 if o.op.operands.toList.all (okOperand cf.nb) && dstOk nt o.dst then
  if wantV nt ops T o then
   match evOp P cf call (env T) H next o with
   | some (out,kd)=>if Nat.ble next out.next && out.dirty.all (fun d=>Nat.blt d next)then some (out,kd,true)else none
   | none=>none
  else some (⟨undef,H,next,[]⟩, .p,false)
 else none
noncomputable def evDraw (call:Caller) (cf:Cfg) (nt:Nat) (ops:Array Oper):List Nat→Tr Value→Tr VObj→Nat→List Rc→Option (Tr Value × Tr VObj × Nat × List Rc)
 | [],T,H,next,acc=>some (T,H,next,acc)
 | i::rest,T,H,next,acc =>
    match ops[i]? with
    | none=>none
    | some o =>
       match evOne P call cf nt ops T H next o with
       | none=>none
       | some (out,kd,ran) =>
          if(acc.all fun r=>(ancsOf acc o).contains r.i || (tmpApart ops r o && heapApart r out kd)) && (o.after.toList.all fun e=> !(Region.binds .any e) || acc.any fun r=>Nat.beq r.i e.on)then
           evDraw call cf nt ops rest (putT T o.dst out.v) out.H out.next (⟨i,ancsOf acc o,o,T,H,next,out,kd,ran⟩::acc)
          else none
def lateGo (ops:Array Oper):Nat→List Nat→List Nat→List Nat
 | 0,_,acc=>acc.reverse
 | f+1,todo,acc =>
    let rdy:=todo.filter fun i=>(ops.getD i default).after.toList.all fun e=> !(Region.binds .any e) || acc.contains e.on
    let isA (i:Nat):Bool:=match (ops.getD i default).op with | .alloc _ | .box _ _ | .buildSlice _ _ _ | .makeSlice _ _ _ | .makeMap _ _=>true | _=>false
    match rdy.find? (fun i=> !isA i)with
    | some i=>lateGo ops f (todo.filter fun j=> !(Nat.beq j i)) (i::acc)
    | none =>
       match rdy with
       | i::_=>lateGo ops f (todo.filter fun j=> !(Nat.beq j i)) (i::acc)
       | []=>acc.reverse
def late (ops:Array Oper):List Nat:=lateGo ops ops.size (List.range ops.size) []
end
def touch (r:Rc)(n:Nat):Prop:=n∈r.out.dirty∨(r.next≤n∧n<r.out.next)
open Classical in
noncomputable def HDL (D:Nat→Bool) (n:Nat):List Rc→Option VObj→Option VObj
 | [],b=>b
 | r::L,b=>HDL D n L (if D r.i=true∧touch r n then r.out.H.get n else b)
noncomputable def TDL (D:Nat→Bool) (t:Nat):List Rc→Value→Value
 | [],b=>b
 | r::L,b=>TDL D t L (if D r.i=true∧r.o.dst=some t then r.out.v else b)
theorem HDL_append (D:Nat→Bool)(n:Nat) : ∀(L M:List Rc) (b:Option VObj),HDL D n (L++M) b=HDL D n M (HDL D n L b)
 | [],_,_=>rfl
 | r::L,M,b=>by simp only[List.cons_append,HDL];exact HDL_append D n L M _
theorem TDL_append (D:Nat→Bool)(t:Nat) : ∀(L M:List Rc) (b:Value),TDL D t (L++M) b=TDL D t M (TDL D t L b)
 | [],_,_=>rfl
 | r::L,M,b=>by simp only[List.cons_append,TDL];exact TDL_append D t L M _
theorem HDL_none {D:Nat→Bool}{n:Nat} : ∀ {L:List Rc} {b:Option VObj},(∀r∈L,D r.i=true→¬touch r n)→HDL D n L b=b
 | [],_,_=>rfl
 | r::L,b,h=>by
    simp only[HDL]
    rw[if_neg (fun hc=>h r (by simp) hc.1 hc.2)]
    exact HDL_none fun r' hr'=>h r' (by simp[hr'])
theorem TDL_none {D:Nat→Bool}{t:Nat} : ∀ {L:List Rc} {b:Value},(∀r∈L,D r.i=true→r.o.dst≠some t)→TDL D t L b=b
 | [],_,_=>rfl
 | r::L,b,h=>by
    simp only[TDL]
    rw[if_neg (fun hc=>h r (by simp) hc.1 hc.2)]
    exact TDL_none fun r' hr'=>h r' (by simp[hr'])
theorem HDL_congr {D D':Nat→Bool}{n:Nat} : ∀ {L:List Rc} {b:Option VObj},(∀r∈L,touch r n→D r.i=D' r.i)→HDL D n L b=HDL D' n L b
 | [],_,_=>rfl
 | r::L,b,h=>by
    simp only[HDL]
    rw[HDL_congr (L:=L) fun r' hr'=>h r' (by simp[hr'])]
    congr 1
    by_cases hd:D r.i=true∧touch r n
    · rw[if_pos hd,if_pos ⟨h r (by simp) hd.2▸hd.1,hd.2⟩]
    · have hd': ¬(D' r.i=true∧touch r n):=fun hc=>hd ⟨(h r (by simp) hc.2).trans hc.1,hc.2⟩
      rw[if_neg hd,if_neg hd']
theorem TDL_congr {D D':Nat→Bool}{t:Nat} : ∀ {L:List Rc} {b:Value},(∀r∈L,r.o.dst=some t→D r.i=D' r.i)→TDL D t L b=TDL D' t L b
 | [],_,_=>rfl
 | r::L,b,h=>by
    simp only[TDL]
    rw[TDL_congr (L:=L) fun r' hr'=>h r' (by simp[hr'])]
    congr 1
    by_cases hd:D r.i=true∧r.o.dst=some t
    · rw[if_pos hd,if_pos ⟨h r (by simp) hd.2▸hd.1,hd.2⟩]
    · have hd': ¬(D' r.i=true∧r.o.dst=some t):=fun hc=>hd ⟨(h r (by simp) hc.2).trans hc.1,hc.2⟩
      rw[if_neg hd,if_neg hd']
inductive Run (P:Program) (call:Caller) (cf:Cfg) (nt:Nat) (ops:Array Oper):Tr Value→Tr VObj→Nat→List Rc→Tr Value→Tr VObj→Nat→Prop
 | nil {T:Tr Value} {H:Tr VObj} {next:Nat}:Run P call cf nt ops T H next [] T H next
 | cons {T T':Tr Value} {H H':Tr VObj} {next next':Nat} {r:Rc} {L:List Rc} (hT:r.T=T) (hH:r.H=H) (hn:r.next=next) (ho:ops[r.i]? = some r.o)
    (he:evOne P call cf nt ops T H next r.o=some (r.out,r.kd,r.ran)) (t:Run P call cf nt ops (putT T r.o.dst r.out.v) r.out.H r.out.next L T' H' next') :
    Run P call cf nt ops T H next (r::L) T' H' next'
theorem Run.snoc {P:Program}{call:Caller}{cf:Cfg}{nt:Nat}{ops:Array Oper}{T T':Tr Value}{H H':Tr VObj}{next next':Nat}{L:List Rc}(h:Run P call cf nt ops T H next L T' H' next')
 {r:Rc} (hT:r.T=T') (hH:r.H=H') (hn:r.next=next') (ho:ops[r.i]? = some r.o) (he:evOne P call cf nt ops T' H' next' r.o=some (r.out,r.kd,r.ran)) :
 Run P call cf nt ops T H next (L++ [r]) (putT T' r.o.dst r.out.v) r.out.H r.out.next:=by
 induction h with
 | nil=>exact .cons hT hH hn ho he .nil
 | cons a b c d e _ ih=>exact .cons a b c d e (ih hT hH hn he)
theorem Run.split {P:Program}{call:Caller}{cf:Cfg}{nt:Nat}{ops:Array Oper}{T T':Tr Value}{H H':Tr VObj}{next next':Nat}{L M:List Rc}(h:Run P call cf nt ops T H next (L++M) T' H' next') :
 ∃T₁ H₁ next₁,Run P call cf nt ops T H next L T₁ H₁ next₁∧Run P call cf nt ops T₁ H₁ next₁ M T' H' next':=by
 induction L generalizing T H next with
 | nil=>exact⟨T,H,next, .nil,h⟩
 | cons r L ih =>
    cases h with
    | cons a b c d e t =>
       obtain⟨T₁,H₁,n₁,h1,h2⟩:=ih t
       exact⟨T₁,H₁,n₁, .cons a b c d e h1,h2⟩
def Closed (ops:Array Oper)(D:Nat→Bool):Prop:=∀i o,ops[i]? = some o→D i=true→∀e∈o.after,Region.binds .any e=true→D e.on=true
def AncIn (ops:Array Oper)(r:Rc):Prop:=∀D:Nat→Bool,Closed ops D→(∀e∈r.o.after,Region.binds .any e=true→D e.on=true)→∀j∈r.anc,D j=true
def Topo (L:List Rc):Prop:=∀L₁ r L₂,L=L₁++r::L₂→∀e∈r.o.after,Region.binds .any e=true→∃q∈L₁,q.i=e.on
theorem Topo.snoc {L:List Rc}(h:Topo L){r:Rc}(hr : ∀e∈r.o.after,Region.binds .any e=true→∃q∈L,q.i=e.on):Topo (L++ [r]):=by
 intro L₁ q L₂ he e hem hb
 rcases List.eq_nil_or_concat L₂ with rfl | ⟨M,x,rfl⟩
 · obtain⟨h1,h2⟩:=List.append_inj' he rfl
   injection h2 with h2
   subst h1 h2
   exact hr e hem hb
 · have:L++ [r]=(L₁++q::M)++ [x]:=by rw[he];simp
   obtain⟨h1, -⟩:=List.append_inj' this rfl
   exact h L₁ q M h1 e hem hb
def Apart (ops:Array Oper)(r r':Rc):Prop:=r.i∈r'.anc∨(tmpApart ops r r'.o=true∧heapApart r r'.out r'.kd=true)
theorem evDraw_run {P:Program}{call:Caller}{cf:Cfg}{nt:Nat}{ops:Array Oper} : ∀(π:List Nat) (T:Tr Value) (H:Tr VObj) (next:Nat) (acc:List Rc) (T':Tr Value) (H':Tr VObj) (next':Nat) (acc':List Rc),
 evDraw P call cf nt ops π T H next acc=some (T',H',next',acc') →
 ∀(T₀:Tr Value) (H₀:Tr VObj) (n₀:Nat),Run P call cf nt ops T₀ H₀ n₀ acc.reverse T H next→acc.reverse.Pairwise (Apart ops)→(∀r∈acc,AncIn ops r)→Topo acc.reverse →
 Run P call cf nt ops T₀ H₀ n₀ acc'.reverse T' H' next'∧acc'.reverse.Pairwise (Apart ops)∧(∀r∈acc',AncIn ops r)∧Topo acc'.reverse∧acc'.reverse.map (·.i)=acc.reverse.map (·.i)++π:=by
 intro π
 induction π with
 | nil =>
    intro T H next acc T' H' next' acc' h T₀ H₀ n₀ hr hp ha hto
    simp only[evDraw,Option.some.injEq,Prod.mk.injEq]at h
    obtain⟨rfl,rfl,rfl,rfl⟩:=h
    exact⟨hr,hp,ha,hto,by simp⟩
 | cons i π ih =>
    intro T H next acc T' H' next' acc' h T₀ H₀ n₀ hr hp ha hto
    simp only[evDraw]at h
    cases ho:ops[i]? with
    | none=>simp[ho]at h
    | some o =>
       simp only[ho]at h
       cases he:evOne P call cf nt ops T H next o with
       | none=>simp[he]at h
       | some q =>
          obtain⟨out,kd,ran⟩:=q
          simp only[he]at h
          split at h
          · rename_i hall'
            rw[Bool.and_eq_true]at hall'
            obtain⟨hall,htop⟩:=hall'
            have hanc:AncIn ops ⟨i,ancsOf acc o,o,T,H,next,out,kd,ran⟩:=by
             intro D hD hdir j hj
             simp only[ancsOf]at hj
             replace hj:=mem_nubGo hj
             rw[List.mem_flatMap]at hj
             obtain⟨e,he',hj⟩:=hj
             split at hj
             · rename_i hb
               have hon:=hdir e (by simpa using he') hb
               cases hj with
               | head=>exact hon
               | tail _ hj =>
                  unfold ancOf at hj
                  split at hj
                  · rename_i r hfind
                    have hmem:=List.mem_of_find?_eq_some hfind
                    have heq:r.i=e.on:=Nat.eq_of_beq_eq_true (List.find?_some (p:=fun r:Rc=>Nat.beq r.i e.on) hfind)
                    have hoR:ops[r.i]? = some r.o:=by
                     have : ∀ {T H next L T' H' next'},Run P call cf nt ops T H next L T' H' next'→∀r∈L,ops[r.i]? = some r.o:=by
                      intro T H next L T' H' next' h
                      induction h with
                      | nil=>simp
                      | cons _ _ _ hh _ _ ih2=>intro r hr;cases hr with | head=>exact hh | tail _ hr=>exact ih2 r hr
                     exact this hr r (by simpa using hmem)
                    exact ha r hmem D hD (hD r.i r.o hoR (by rw[heq];exact hon)) j hj
                  · cases hj
             · cases hj
            obtain⟨h1,h2,h3,h5,h4⟩:=ih _ _ _ _ T' H' next' acc' h T₀ H₀ n₀
             (by rw[List.reverse_cons];exact hr.snoc rfl rfl rfl ho he)
             (by
               rw[List.reverse_cons,List.pairwise_append]
               refine⟨hp,by simp,fun r hr' r' hr''=> ?_⟩
               simp only[List.mem_singleton]at hr''
               subst hr''
               rw[List.all_eq_true]at hall
               have:=hall r (by simpa using hr')
               simp only[Bool.or_eq_true,Bool.and_eq_true]at this
               rcases this with hc | hc
               · exact .inl (by simpa using hc)
               · exact .inr hc)
             (fun r hr'=>by cases hr' with | head=>exact hanc | tail _ hr'=>exact ha r hr')
             (by
               rw[List.reverse_cons]
               refine hto.snoc fun e hem hb=> ?_
               rw[List.all_eq_true]at htop
               have:=htop e (by simpa using hem)
               rw[hb]at this
               simp only[Bool.not_true,Bool.false_or,List.any_eq_true]at this
               obtain⟨q,hq,hqe⟩:=this
               exact⟨q,by simpa using hq,Nat.eq_of_beq_eq_true hqe⟩)
            exact⟨h1,h2,h3,h5,by rw[h4];simp⟩
          · cases h
structure Sc where
 i:Nat
 anc:List Nat
 o:Oper
def ancOfS (acc:List Sc)(j:Nat):List Nat :=
 match acc.find? (fun r=>Nat.beq r.i j)with
 | some r=>r.anc
 | none=> []
def ancsOfS (acc:List Sc)(o:Oper):List Nat:=nubGo (o.after.toList.flatMap fun e=>if Region.binds .any e then e.on::ancOfS acc e.on else[]) 0
def tmpApartS (ops:Array Oper)(ro o:Oper):Bool :=
 (match ro.dst with
   | some d=> !(tmpsOf ops o).contains d && !(o.dst == some d)
   | none=>true) &&
 (match o.dst with
   | some d=> !(tmpsOf ops ro).contains d
   | none=>true)
def stat (ops:Array Oper):List Nat→List Sc→Option (List Sc)
 | [],_=>some []
 | i::rest,acc =>
    match ops[i]? with
    | none=>none
    | some o =>
       if(acc.all fun r=>(ancsOfS acc o).contains r.i || tmpApartS ops r.o o) && (o.after.toList.all fun e=> !(Region.binds .any e) || acc.any fun r=>Nat.beq r.i e.on)then
        (stat ops rest (⟨i,ancsOfS acc o,o⟩::acc)).map (⟨i,ancsOfS acc o,o⟩:: ·)
       else none
def Kd.isP:Kd→Bool
 | .p=>true
 | _=>false
noncomputable def evFast (P:Program) (call:Caller) (cf:Cfg) (nt:Nat) (ops:Array Oper):List Sc→Tr Value→Tr VObj→Nat→List Rc→List Nat→Option (Tr Value × Tr VObj × Nat × List Nat)
 | [],T,H,next,_,dirty=>some (T,H,next,dirty)
 | s::rest,T,H,next,hot,dirty =>
    match evOne P call cf nt ops T H next s.o with
    | none=>none
    | some (out,kd,ran) =>
       match kd.isP with
       | true=>evFast P call cf nt ops rest (putT T s.o.dst out.v) out.H out.next hot (out.dirty++dirty)
       | false =>
          if hot.all fun r=>s.anc.contains r.i || heapApart r out kd then
           evFast P call cf nt ops rest (putT T s.o.dst out.v) out.H out.next (⟨s.i,s.anc,s.o,T,H,next,out,kd,ran⟩::hot) (out.dirty++dirty)
          else none
def Rc.sc (r:Rc):Sc:=⟨r.i,r.anc,r.o⟩
theorem ancsOf_sc (acc:List Rc)(o:Oper):ancsOfS (acc.map Rc.sc) o=ancsOf acc o:=by
 have h : ∀j,ancOfS (acc.map Rc.sc) j=ancOf acc j:=by
  intro j
  unfold ancOfS ancOf
  rw[List.find?_map]
  have e:((fun r:Sc=>Nat.beq r.i j) ∘ Rc.sc)=fun r:Rc=>Nat.beq r.i j:=rfl
  rw[e]
  cases acc.find? (fun r=>Nat.beq r.i j)<;>rfl
 simp only[ancsOfS,ancsOf,h]
theorem heapApart_p1 {r:Rc}{out:Out}{kd:Kd}(h:r.kd.isP=true):heapApart r out kd=true:=by
 unfold heapApart
 cases hk:r.kd<;>simp[hk,Kd.isP]at h<;>cases kd<;>rfl
theorem heapApart_p2 {r:Rc}{out:Out}{kd:Kd}(h:kd.isP=true):heapApart r out kd=true:=by
 unfold heapApart
 cases kd<;>simp[Kd.isP]at h
 cases r.kd<;>rfl
theorem evFast_draw {P:Program}{call:Caller}{cf:Cfg}{nt:Nat}{ops:Array Oper} : ∀(π:List Nat) (L:List Sc) (acc hot:List Rc) (T:Tr Value) (H:Tr VObj) (next:Nat) (T':Tr Value) (H':Tr VObj) (next':Nat) (dirty':List Nat),
 stat ops π (acc.map Rc.sc)=some L→(∀r∈acc,r∈hot∨r.kd.isP=true)→evFast P call cf nt ops L T H next hot (acc.flatMap fun r=>r.out.dirty)=some (T',H',next',dirty') →
 ∃acc',evDraw P call cf nt ops π T H next acc=some (T',H',next',acc')∧dirty'=acc'.flatMap fun r=>r.out.dirty:=by
 intro π
 induction π with
 | nil =>
    intro L acc hot T H next T' H' next' dirty' hs hh hf
    simp only[stat,Option.some.injEq]at hs;subst hs
    simp only[evFast,Option.some.injEq,Prod.mk.injEq]at hf
    obtain⟨rfl,rfl,rfl,rfl⟩:=hf
    exact⟨acc,rfl,rfl⟩
 | cons i π ih =>
    intro L acc hot T H next T' H' next' dirty' hs hh hf
    simp only[stat]at hs
    cases ho:ops[i]? with
    | none=>simp[ho]at hs
    | some o =>
       simp only[ho]at hs
       split at hs
       · rename_i hc
         rw[Bool.and_eq_true]at hc
         obtain⟨hap,htop⟩:=hc
         rw[List.all_map,List.all_eq_true]at hap
         obtain⟨L',hL',rfl⟩:=Option.map_eq_some_iff.1 hs
         simp only[evFast,ancsOf_sc]at hf
         cases he:evOne P call cf nt ops T H next o with
         | none=>simp[he]at hf
         | some q =>
            obtain⟨out,kd,ran⟩:=q
            simp only[he]at hf
            have hany : ∀e:Edge,((acc.map Rc.sc).any fun r=>Nat.beq r.i e.on)=acc.any fun r=>Nat.beq r.i e.on:=fun e=>by rw[List.any_map];rfl
            have cond:(∀r∈acc,(ancsOf acc o).contains r.i=true∨heapApart r out kd=true) →
             ((acc.all fun r=>(ancsOf acc o).contains r.i || (tmpApart ops r o && heapApart r out kd)) && (o.after.toList.all fun e=> !(Region.binds .any e) || acc.any fun r=>Nat.beq r.i e.on))=true:=by
               intro hd
               rw[Bool.and_eq_true]
               refine⟨?_,?_⟩
               · rw[List.all_eq_true]
                 intro r hr
                 have h1:=hap r hr
                 have h2:=hd r hr
                 simp only[Function.comp,ancsOf_sc,Bool.or_eq_true]at h1
                 simp only[Bool.or_eq_true,Bool.and_eq_true]
                 rcases h1 with h1 | h1
                 · exact .inl h1
                 · rcases h2 with h2 | h2
                   · exact .inl h2
                   · exact .inr ⟨h1,h2⟩
               · simpa only[hany]using htop
            have step : ∀hot',(∀r∈acc,(ancsOf acc o).contains r.i=true∨heapApart r out kd=true)→(∀r∈(⟨i,ancsOf acc o,o,T,H,next,out,kd,ran⟩:Rc)::acc,r∈hot'∨r.kd.isP=true) →
             evFast P call cf nt ops L' (putT T o.dst out.v) out.H out.next hot' (out.dirty++acc.flatMap fun r=>r.out.dirty)=some (T',H',next',dirty') →
             ∃acc',evDraw P call cf nt ops (i::π) T H next acc=some (T',H',next',acc')∧dirty'=acc'.flatMap fun r=>r.out.dirty:=by
             intro hot' hd hh' hf'
             obtain⟨acc',e1,e2⟩:=ih L' (⟨i,ancsOf acc o,o,T,H,next,out,kd,ran⟩::acc) hot' _ _ _ T' H' next' dirty' (by simpa only[List.map_cons,Rc.sc,ancsOf_sc]using hL') hh' (by simpa only[List.flatMap_cons]using hf')
             refine⟨acc',?_,e2⟩
             simp only[evDraw,ho,he]
             rw[if_pos (cond hd)]
             exact e1
            split at hf
            · rename_i hp
              refine step hot (fun r _=> .inr (heapApart_p2 hp)) (fun r hr=> ?_) hf
              cases hr with
              | head=>exact .inr hp
              | tail _ hr=>exact hh r hr
            · split at hf
              · rename_i hall
                rw[List.all_eq_true]at hall
                refine step _ (fun r hr=> ?_) (fun r hr=> ?_) hf
                · rcases hh r hr with h | h
                  · have:=hall r h
                    simpa only[Bool.or_eq_true]using this
                  · exact .inr (heapApart_p1 h)
                · cases hr with
                  | head=>exact .inl (by simp)
                  | tail _ hr =>
                     rcases hh r hr with h | h
                     · exact .inl (List.mem_cons_of_mem _ h)
                     · exact .inr h
              · cases hf
       · cases hs
end Go.Eng
set_option linter.unusedSectionVars false
namespace Go.Eng
open Go
def Rest (H:Tr VObj)(next:Nat)(out:Out):Prop:=∀n,¬(next≤n∧n<out.next)→n∉out.dirty→out.H.get n=H.get n
def CallRest (call:Caller):Prop:=∀(f:Tgt) (args:List Value) (H:Tr VObj) (next:Nat) (out:Out),call f args H next=some out→Rest H next out
section
variable [Base] {P:Program}
theorem Rest.still {H:Tr VObj}{next:Nat}{v:Value}:Rest H next ⟨v,H,next,[]⟩:=fun _ _ _=>rfl
theorem Rest.put {H:Tr VObj}{next b:Nat}{v:Value}{x:Option VObj}(hb:b<1099511627775):Rest H next ⟨v,Tr.put x wide H b,next,[b]⟩:=fun n _ hn=>by
 simp only[List.mem_singleton]at hn
 simp only[Tr.get_put' _ _ _ _ hb,if_neg hn]
theorem Rest.new {H:Tr VObj}{next:Nat}{v:Value}{x:Option VObj}(hb:next<1099511627775):Rest H next ⟨v,Tr.put x wide H next,next+1,[]⟩:=fun n hn _=>by
 simp only at hn
 simp only[Tr.get_put' _ _ _ _ hb]
 rw[if_neg (by omega)]
theorem evS_rest {E:Operand→Value}{H:Tr VObj}{next:Nat}{o:Oper}{out:Out}(h:evS P E H next o=some out):Rest H next out:=by
 unfold evS at h
 repeat' split at h
 all_goals first | cases h | skip
 rename_i hc
 exact .put hc.2.2.2.2.2
theorem evApp_rest {E:Operand→Value}{H:Tr VObj}{next:Nat}{t u:TypeId}{s x:Operand}{out:Out}(h:evApp P E H next t u s x=some out):Rest H next out:=by
 unfold evApp at h
 repeat' split at h
 all_goals first | (cases h;done) | skip
 all_goals (simp only[Option.some.injEq]at h;subst h)
 all_goals first
  | exact Rest.still
  | exact Rest.new (by omega)
  | skip
 all_goals
  intro n hn hd
  simp only[List.mem_singleton]at hn hd
  simp only[Tr.get_put' _ _ next _ (show next<1099511627775 by omega)]
  rw[if_neg (by omega),Tr.get_put' _ _ _ _ (by omega),if_neg hd]
theorem evX_rest {E:Operand→Value}{H:Tr VObj}{next:Nat}{o:Oper}{out:Out}(h:evX P E H next o=some out):Rest H next out:=by
 unfold evX at h
 split at h
 · exact evApp_rest h
 · repeat' split at h
   all_goals first | (cases h;done) | skip
   all_goals (simp only[Option.some.injEq]at h;subst h)
   all_goals first
    | exact Rest.still
    | (rename_i hc;exact Rest.put hc.2.2.1)
 · repeat' split at h
   all_goals first | (cases h;done) | skip
   all_goals (simp only[Option.some.injEq]at h;subst h)
   all_goals first
    | exact Rest.still
    | exact Rest.put (by assumption)
 · repeat' split at h
   all_goals first | (cases h;done) | skip
   all_goals (simp only[Option.some.injEq]at h;subst h)
   all_goals first
    | exact Rest.still
    | exact Rest.put (by assumption)
 · repeat' split at h
   all_goals first | (cases h;done) | skip
   all_goals (simp only[Option.some.injEq]at h;subst h)
   all_goals first
    | exact Rest.still
    | exact Rest.put (by assumption)
 · cases h
theorem xS_rest {cf:Cfg}{k:XK}{args:List Value}{H:Tr VObj}{next:Nat}{out:Out}(h:xS P cf k args H next=some out):Rest H next out:=by
 have hst : ∀ {t:TypeId} {b of:Nat} {x:Value},storeO P H next t b of x=some out→Rest H next out:=by
  intro t b of x h
  unfold storeO at h
  repeat' split at h
  all_goals first | (cases h;done) | skip
  rename_i hc
  simp only[Option.some.injEq]at h;subst h
  exact .put hc.2.2.2.2.2
 unfold xS at h
 repeat' split at h
 all_goals first | (cases h;done) | skip
 exact hst h
theorem OpIs.rest {cf:Cfg}{call:Caller}(hc:CallRest call){E:Operand→Value}{H:Tr VObj}{next:Nat}{o:Oper}{out:Out}{kd:Kd}(h:OpIs P cf call E H next o out kd):Rest H next out:=by
 cases h with
 | p h=>exact .still
 | r h=>exact .still
 | l h=>exact .still
 | a h hn=>exact .new hn
 | s h=>exact evS_rest h
 | x h=>exact evX_rest h
 | m h=>exact .still
 | xq _ h=>exact .still
 | xr _ h=>exact .still
 | t h=>exact .still
 | xa _ h hn=>exact .new hn
 | xs _ h=>exact xS_rest h
 | c h hcall=>exact hc _ _ _ _ _ hcall
structure RcOk (P:Program) (call:Caller) (cf:Cfg) (nt:Nat) (ops:Array Oper) (r:Rc):Prop where
 op:ops[r.i]? = some r.o
 operands : ∀x∈r.o.op.operands,okOperand cf.nb x=true
 dst : ∀d,r.o.dst=some d→d<nt∧d<1099511627775
 le:r.next≤r.out.next
 dirty : ∀d∈r.out.dirty,d<r.next
 rest:Rest r.H r.next r.out
 ran:r.ran=true→wantV nt ops r.T r.o=true∧(∀c,r.o.op≠ .defer c)∧OpIs P cf call (env r.T) r.H r.next r.o r.out r.kd
 not:r.ran=false→wantV nt ops r.T r.o=false∧r.out=⟨undef,r.H,r.next,[]⟩∧r.kd = .p
 quiet:(r.kd = .p∨∃n,r.kd = .r n)→∀n,¬touch r n
 alloc:r.kd = .a→r.out.dirty = []∧r.out.next=r.next+1
theorem rcOk {call:Caller}(hc:CallRest call){cf:Cfg}{nt:Nat}{ops:Array Oper}{r:Rc}(ho:ops[r.i]? = some r.o)(he:evOne P call cf nt ops r.T r.H r.next r.o=some (r.out,r.kd,r.ran)):RcOk P call cf nt ops r:=by
 unfold evOne at he
 split at he
 · rename_i hcond
   rw[Bool.and_eq_true,List.all_eq_true]at hcond
   have hop : ∀x∈r.o.op.operands,okOperand cf.nb x=true:=fun x hx=>hcond.1 x (by simpa using hx)
   have hdst : ∀d,r.o.dst=some d→d<nt∧d<1099511627775:=fun d hd=>by
    have:=hcond.2
    simp only[dstOk,hd,Bool.and_eq_true,Nat.blt_eq]at this
    exact this
   split at he
   · rename_i hw
     split at he
     · rename_i out kd hev
       split at he
       · rename_i hchk
         simp only[Option.some.injEq,Prod.mk.injEq]at he
         obtain⟨e1,e2,e3⟩:=he
         rw[Bool.and_eq_true,List.all_eq_true]at hchk
         obtain⟨hd,his⟩:=evOp_is hev
         subst e1 e2
         have hle:r.next≤r.out.next:=Nat.le_of_ble_eq_true hchk.1
         exact {
          op:=ho
          operands:=hop
          dst:=hdst
          le:=hle
          dirty:=fun d hdd=>by have:=hchk.2 d hdd;simpa[Nat.blt_eq]using this
          rest:=his.rest hc
          ran:=fun _=>⟨hw,hd,his⟩
          not:=fun h=>by rw[←e3]at h;cases h
          quiet:=fun hk n ht=>by
           have:r.out.dirty = []∧r.out.next=r.next:=by
            generalize r.out=q at his hk ⊢
            generalize r.kd=kk at his hk
            cases his<;>first | exact⟨rfl,rfl⟩ | (rcases hk with hk | ⟨m,hk⟩<;>cases hk)
           rcases ht with ht | ht
           · rw[this.1]at ht;cases ht
           · omega
          alloc:=fun hk=>by
           generalize r.out=q at his ⊢
           rw[hk]at his
           cases his<;>exact⟨rfl,rfl⟩}
       · cases he
     · cases he
   · rename_i hw
     simp only[Option.some.injEq,Prod.mk.injEq]at he
     obtain⟨e1,e2,e3⟩:=he
     exact {
      op:=ho
      operands:=hop
      dst:=hdst
      le:=by rw[←e1];exact Nat.le_refl _
      dirty:=fun d hdd=>by rw[←e1]at hdd;cases hdd
      rest:=by rw[←e1];exact .still
      ran:=fun h=>by rw[←e3]at h;cases h
      not:=fun _=>⟨by simpa using hw,e1.symm,e2.symm⟩
      quiet:=fun _ n ht=>by
       rcases ht with ht | ht
       · rw[←e1]at ht;cases ht
       · rw[←e1]at ht;simp only at ht;omega
      alloc:=fun hk=>by rw[←e2]at hk;cases hk}
 · cases he
section
variable {call:Caller} {cf:Cfg} {nt:Nat} {ops:Array Oper}
theorem Run.ok (hc:CallRest call){T T':Tr Value}{H H':Tr VObj}{next next':Nat}{L:List Rc}(h:Run P call cf nt ops T H next L T' H' next') : ∀r∈L,RcOk P call cf nt ops r:=by
 induction h with
 | nil=>simp
 | cons hT hH hn ho he _ ih =>
    intro r hr
    cases hr with
    | head=>exact rcOk hc ho (by rw[hT,hH,hn];exact he)
    | tail _ hr=>exact ih r hr
theorem Run.le (hc:CallRest call){T T':Tr Value}{H H':Tr VObj}{next next':Nat}{L:List Rc}(h:Run P call cf nt ops T H next L T' H' next'):next≤next'∧∀r∈L,next≤r.next∧r.out.next≤next':=by
 induction h with
 | nil=>exact⟨Nat.le_refl _,by simp⟩
 | cons hT hH hn ho he _ ih =>
    have hk:=rcOk hc ho (by rw[hT,hH,hn];exact he)
    have:=hk.le
    refine⟨by omega,fun r hr=> ?_⟩
    cases hr with
    | head=>exact⟨by omega,ih.1⟩
    | tail _ hr=>have:=ih.2 r hr;exact⟨by omega,this.2⟩
theorem Run.heap (hc:CallRest call){T T':Tr Value}{H H':Tr VObj}{next next':Nat}{L:List Rc}(h:Run P call cf nt ops T H next L T' H' next')(n:Nat) :
 H'.get n=HDL (fun _=>true) n L (H.get n):=by
 induction h with
 | nil=>rfl
 | cons hT hH hn ho he _ ih =>
    have hk:=rcOk hc ho (by rw[hT,hH,hn];exact he)
    rw[ih]
    simp only[HDL,true_and]
    congr 1
    split
    · rfl
    · rename_i ht
      rw[hk.rest n (fun c=>ht ⟨rfl, .inr c⟩) (fun c=>ht ⟨rfl, .inl c⟩),hH]
theorem putT_val {T:Tr Value}{dst:Option Nat}{v:Value}{t:Nat}(hd : ∀d,dst=some d→d<1099511627775):(putT T dst v).val t=if dst=some t then v else T.val t:=by
 cases dst with
 | none=>rfl
 | some d =>
    simp only[putT,Tr.val,Tr.get_put' _ _ _ _ (hd d rfl),Option.some.injEq]
    by_cases e:t=d
    · subst e;simp
    · rw[if_neg e,if_neg (Ne.symm e)]
theorem Run.tmps (hc:CallRest call){T T':Tr Value}{H H':Tr VObj}{next next':Nat}{L:List Rc}(h:Run P call cf nt ops T H next L T' H' next')(t:Nat) :
 T'.val t=TDL (fun _=>true) t L (T.val t):=by
 induction h with
 | nil=>rfl
 | cons hT hH hn ho he _ ih =>
    have hk:=rcOk hc ho (by rw[hT,hH,hn];exact he)
    rw[ih,putT_val fun d hd=>(hk.dst d hd).2]
    simp only[TDL,true_and]
theorem Run.tile {T T':Tr Value}{H H':Tr VObj}{next next':Nat}{L:List Rc}(h:Run P call cf nt ops T H next L T' H' next') :
 ∀n,next≤n→n<next'→∃r∈L,r.next≤n∧n<r.out.next:=by
 induction h with
 | nil=>intro n h1 h2;omega
 | cons hT hH hn ho he _ ih =>
    rename_i r L _
    intro n h1 h2
    by_cases hlt:n<r.out.next
    · exact⟨r,by simp,by omega,hlt⟩
    · obtain⟨r',hr',h3⟩:=ih n (by omega) h2
      exact⟨r',by simp[hr'],h3⟩
theorem Run.bound (hc:CallRest call){T T':Tr Value}{H H':Tr VObj}{next next':Nat}{L:List Rc}(h:Run P call cf nt ops T H next L T' H' next')(hb : ∀n,(H.get n).isSome→n<next) :
 ∀n,(H'.get n).isSome→n<next':=by
 induction h with
 | nil=>exact hb
 | cons hT hH hn ho he _ ih =>
    have hk:=rcOk hc ho (by rw[hT,hH,hn];exact he)
    refine ih fun n hn'=> ?_
    rename_i r L ht
    have hle:=hk.le
    by_cases h1:r.next≤n∧n<r.out.next
    · exact h1.2
    · by_cases h2:n∈r.out.dirty
      · have:=hk.dirty n h2;omega
      · rw[hk.rest n h1 h2,hH]at hn'
        have:=hb n hn'
        omega
end
end
end Go.Eng
