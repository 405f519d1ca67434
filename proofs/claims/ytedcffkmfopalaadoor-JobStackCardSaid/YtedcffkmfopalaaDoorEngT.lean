import Derived.Test.YtedcffkmfopalaaDoorEngS
namespace Go.Eng
open Go

section
variable {P : Program} {call : Caller} {cf : Cfg} {lf : Nat}

theorem SR.begin {H : Tr VObj} {next nt : Nat} {ρ : Ren} {w : World} {T : Tr Value} {a : Act} (R : Rel ρ H.get w) (ht : TR ρ nt T.val a) (hd : a.defers = []) : SR next H ρ w nt ρ ⟨T, [], H, next, []⟩ a w :=
  ⟨ht, by rw [hd]; exact .nil, R, Post.refl' (fun n h => by simp only at h; omega) (fun n h => by cases h) R.lt⟩

theorem evEnter_ss (hcr : CallRest call) {f : FuncId} {args : List Value} {H : Tr VObj} {next : Nat} {fn : Func} {st : St} (h : evEnter P call cf lf f args H next = some (fn, st)) :
    SS next H st := by
  unfold evEnter at h
  split at h
  · split at h
    · split at h
      · split at h
        · rename_i h1
          simp only [Option.some.injEq, Prod.mk.injEq] at h; obtain ⟨-, rfl⟩ := h
          exact (evCode_ss hcr _ _ _ _ h1 SS.begin).1
        · rename_i h1
          simp only [Option.some.injEq, Prod.mk.injEq] at h; obtain ⟨-, rfl⟩ := h
          exact (evCode_ss hcr _ _ _ _ h1 SS.begin).1
        · cases h
      · cases h
    · cases h
  · cases h

theorem evEnter_ok (hcr : CallRest call) (hco : CallOk P cf call) (hm : P.follows .mixedOrders = true) {f : FuncId} {args : List Value} {H : Tr VObj} {next : Nat} {fn : Func} {st : St}
    (h : evEnter P call cf lf f args H next = some (fn, st)) (hb : ∀ n, (H.get n).isSome → n < next) {ρ : Ren} {w : World} {args' : List Value} (R : Rel ρ H.get w) (hg : ∀ g, g < cf.nb → ∃ k, ρ g = some (g, k))
    {B : Nat} (hfree : ∀ n, next ≤ n → n < B → ρ n = none) (hB : st.next ≤ B) (ha : VRs ρ args args') :
    ∃ c, P.funcs[f]? = some fn ∧ fn.body = some c ∧ ∀ Q : Exit → Act → World → Prop,
      (∀ ρ' a' w' ex, ex = .normal ∨ ex = .ret → SR next H ρ w (max args.length fn.ntmps) ρ' st a' w' → Q ex a' w') →
      c.wpIn (FR none) 0 P Q { tmps := (⟨args'⟩ : Array Value) ++ Array.replicate (fn.ntmps - (⟨args'⟩ : Array Value).size) undef, defers := [] } w := by
  unfold evEnter at h
  split at h
  · rename_i fn0 hfn
    split at h
    · rename_i c hc
      split at h
      · rename_i hn
        have hbegin := SR.begin (next := next) R (TR.begin ha hn) rfl
        have run : ∀ ex st1, evCode P call cf (max args.length fn0.ntmps) next none lf c ⟨putAll args 0 .nil, [], H, next, []⟩ = some (ex, st1) → (ex = .normal ∨ ex = .ret) → st1.next ≤ B →
            ∀ Q : Exit → Act → World → Prop, (∀ ρ' a' w' ex, ex = .normal ∨ ex = .ret → SR next H ρ w (max args.length fn0.ntmps) ρ' st1 a' w' → Q ex a' w') →
            c.wpIn (FR none) 0 P Q { tmps := (⟨args'⟩ : Array Value) ++ Array.replicate (fn0.ntmps - (⟨args'⟩ : Array Value).size) undef, defers := [] } w := fun ex st1 he hex hB1 Q hQ =>
          evCode_ok (ro := none) (ro' := none) hb hcr hco hm hg hfree trivial c _ ex st1 he SS.begin hB1 ρ _ w Q hbegin fun ρ' a' w' hR' => hQ ρ' a' w' ex hex hR'
        split at h
        · rename_i st1 h1
          simp only [Option.some.injEq, Prod.mk.injEq] at h; obtain ⟨rfl, rfl⟩ := h
          exact ⟨c, hfn, hc, run _ _ h1 (.inl rfl) hB⟩
        · rename_i st1 h1
          simp only [Option.some.injEq, Prod.mk.injEq] at h; obtain ⟨rfl, rfl⟩ := h
          exact ⟨c, hfn, hc, run _ _ h1 (.inr rfl) hB⟩
        · cases h
      · cases h
    · cases h
  · cases h

theorem SR.good {H : Tr VObj} {next nt : Nat} {ρ ρ' : Ren} {w w' : World} {st : St} {a : Act} {v v' : Value} (h : SR next H ρ w nt ρ' st a w') (hs : SS next H st) (hv : VR ρ' v v') : Good ρ H next w ⟨v, st.H, st.next, st.dirty⟩ v' ρ' w' :=
  ⟨hv, h.post, hs.rest, hs.le⟩

theorem evLeave_ok {fn : Func} {st : St} {out : Out} (h : evLeave P fn st = some out) : ∃ vs, resV P st.T st.H fn.results.toList = some vs ∧ out = ⟨oneOf vs, st.H, st.next, st.dirty⟩ := by
  simp only [evLeave, Option.map_eq_some_iff] at h
  obtain ⟨vs, h1, h2⟩ := h
  exact ⟨vs, h1, h2.symm⟩

theorem evPlain_rest (hcr : CallRest call) {f : FuncId} {args : List Value} {H : Tr VObj} {next : Nat} {out : Out} (h : evPlain P call cf lf f args H next = some out) : Rest H next out := by
  unfold evPlain at h
  split at h
  · rename_i fn st he
    split at h
    · obtain ⟨vs, -, rfl⟩ := evLeave_ok h
      exact (evEnter_ss hcr he).rest
    · cases h
  · cases h

theorem evDfs_ss (hcr : CallRest call) {n0 : Nat} {H0 : Tr VObj} : ∀ (l : List Df) (st st' : St), evDfs P call cf lf n0 l st = some st' → SS n0 H0 st → SS n0 H0 st' ∧ st.next ≤ st'.next := by
  intro l
  induction l with
  | nil => intro st st' h hs; simp only [evDfs, Option.some.injEq] at h; subst h; exact ⟨hs, Nat.le_refl _⟩
  | cons d l ih =>
    intro st st' h hs
    cases d with
    | mark r =>
      simp only [evDfs] at h
      split at h
      · split at h
        · rename_i hc
          rw [Bool.and_eq_true] at hc
          obtain ⟨h1, h2⟩ := ih _ st' h (hs.step (out := ⟨undef, _, st.next, [r]⟩) (T := st.T) (rest_put hc.1) (Nat.le_refl _) (fun d hd => by simp only [List.mem_singleton] at hd; subst hd; simpa [Nat.blt_eq] using hc.2))
          exact ⟨h1, h2⟩
        · cases h
      · cases h
    | fn g args cap =>
      simp only [evDfs] at h
      split at h
      · split at h
        · rename_i out ho
          split at h
          · rename_i hc
            rw [Bool.and_eq_true, List.all_eq_true] at hc
            have hle : st.next ≤ out.next := Nat.le_of_ble_eq_true hc.1
            obtain ⟨h1, h2⟩ := ih _ st' h (hs.step (T := st.T) (evPlain_rest hcr ho) hle (fun d hd => by simpa [Nat.blt_eq] using hc.2 d hd))
            exact ⟨h1, Nat.le_trans hle h2⟩
          · cases h
        · cases h
      · cases h

theorem evPlain_ok (hcr : CallRest call) (hco : CallOk P cf call) (hm : P.follows .mixedOrders = true) {f : FuncId} {args : List Value} {H : Tr VObj} {next : Nat} {out : Out}
    (h : evPlain P call cf lf f args H next = some out) (hb : ∀ n, (H.get n).isSome → n < next) {ρ : Ren} {w : World} {args' : List Value} (R : Rel ρ H.get w) (hg : ∀ g, g < cf.nb → ∃ k, ρ g = some (g, k))
    (hfree : ∀ n, next ≤ n → n < out.next → ρ n = none) (ha : VRs ρ args args') (u : FrameMode) :
    CallsDIn (FR none) 0 P f ⟨args'⟩ u w fun e u' w' => u' = u ∧ ∃ v' ρ', e = .returned v' ∧ Good ρ H next w out v' ρ' w' := by
  unfold evPlain at h
  split at h
  · rename_i fn st he
    have hss := evEnter_ss hcr he
    split at h
    · rename_i hdf
      obtain ⟨vs, hvs, rfl⟩ := evLeave_ok h
      obtain ⟨c, hfn, hc, hrun⟩ := evEnter_ok (B := st.next) hcr hco hm he hb R hg hfree (Nat.le_refl _) ha
      refine callsDIn_of_wp hfn hc trivial (hrun _ fun ρ' a' w' ex hex hR => ?_)
      obtain ⟨v', h1, h2⟩ := results_ok (P := P) hR.tr hR.rel hvs
      have hd : a'.defers = [] := by have := hR.dr; rw [hdf] at this; generalize a'.defers = q at this ⊢; cases this; rfl
      rcases hex with rfl | rfl <;> exact ⟨hd, v', h2, v', ρ', rfl, hR.good hss h1⟩
    · cases h
  · cases h

theorem evDfs_ok (hcr : CallRest call) (hco : CallOk P cf call) (hm : P.follows .mixedOrders = true) {n0 nt : Nat} {H0 : Tr VObj} (hb0 : ∀ n, (H0.get n).isSome → n < n0)  {ρ0 : Ren} {w0 : World} {fn : Func} {B : Nat}
    (hg : ∀ g, g < cf.nb → ∃ k, ρ0 g = some (g, k)) (hfree : ∀ n, n0 ≤ n → n < B → ρ0 n = none) {R : Ending → World → Prop} {tmps : Array Value} : ∀ (l : List Df) (st st' : St), evDfs P call cf lf n0 l st = some st' → SS n0 H0 st → st'.next ≤ B →
    ∀ (ρ : Ren) (ds : List Deferred) (w : World), DR ρ l ds → TR ρ nt st.T.val { tmps := tmps, defers := [] } → Rel ρ st.H.get w → Post ρ0 H0.get w0 (fun n => n0 ≤ n ∧ n < st.next) (· ∈ st.dirty) ρ st.H.get w →
    (∀ ρ' w', TR ρ' nt st'.T.val { tmps := tmps, defers := [] } → Rel ρ' st'.H.get w' → Post ρ0 H0.get w0 (fun n => n0 ≤ n ∧ n < st'.next) (· ∈ st'.dirty) ρ' st'.H.get w' → ∃ v, (results fn tmps).run P w' = .ok v w' ∧ R (.returned v) w') →
    LeavesInM (FR none) 0 P fn tmps R ds .returning w := by
  intro l
  induction l with
  | nil =>
    intro st st' h hs hB ρ ds w hd ht hrel hpost hfin
    simp only [evDfs, Option.some.injEq] at h; subst h
    cases hd
    exact hfin ρ w ht hrel hpost
  | cons d l ih =>
    intro st st' h hs hB ρ ds w hd ht hrel hpost hfin
    have hR : SR n0 H0 ρ0 w0 nt ρ ⟨st.T, [], st.H, st.next, st.dirty⟩ { tmps := tmps, defers := [] } w := ⟨ht, .nil, hrel, hpost⟩
    have hs' : SS n0 H0 ⟨st.T, [], st.H, st.next, st.dirty⟩ := ⟨hs.rest, hs.le, hs.old⟩
    have hn0 := hs.le
    cases hd with
    | mark hr hrest =>
      rename_i r r' k ds
      simp only [evDfs] at h
      split at h
      · rename_i hget
        split at h
        · rename_i hc
          rw [Bool.and_eq_true] at hc
          have hn : r < 1099511627775 := by simpa [nameOk, Nat.blt_eq] using hc.1
          have hlt : r < st.next := by simpa [Nat.blt_eq] using hc.2
          obtain ⟨b, kb, e1, e2⟩ := hrel.hr r _ hget
          rw [hr] at e1; injection e1 with e1; injection e1 with e1 _; subst e1
          have hsz := hrel.live (by simp [hget]) hr
          have hp : Post ρ st.H.get w (fun n => st.next ≤ n ∧ n < st.next) (· ∈ [r]) ρ (Tr.put (some (VObj.other (.deferred none))) wide st.H r).get (w.putObj r' (.deferred none)) := by
            have x1 : (fun n => st.next ≤ n ∧ n < st.next) = fun _ => False := by funext n; simp only [eq_iff_iff, iff_false]; omega
            have x2 : (fun n => n ∈ [r]) = fun n => n = r := by funext n; simp
            simp only [x1, x2]
            refine Post.write (o := .other (.deferred none)) hrel.lt (by simp [hget]) hr ⟨fun j hj => World.putObj_heap_other hj, by simp [World.putObj], rfl, rfl, rfl⟩ (by rw [Tr.get_put' _ _ _ _ hn, if_pos rfl]) ⟨r', k, hr, World.putObj_heap_same hsz⟩
          have hstep := hR.step (out := ⟨undef, _, st.next, [r]⟩) (v' := undef) (T := st.T) (a' := { tmps := tmps, defers := [] }) hs' (fun d hd => by simp only [List.mem_singleton] at hd; subst hd; exact hlt)
            ⟨undef_VR, hp, rest_put hc.1, Nat.le_refl _⟩ (fun n h1 h2 => by simp only at h1 h2; omega) ht rfl
          refine ⟨by simp, .inl ⟨r', _, rfl, run_takeDeferred e2, ?_⟩⟩
          exact ih _ st' h (hs.step (out := ⟨undef, _, st.next, [r]⟩) (T := st.T) (rest_put hc.1) (Nat.le_refl _) (fun d hd => by simp only [List.mem_singleton] at hd; subst hd; exact hlt)) hB ρ ds _ hrest hstep.tr hstep.rel hstep.post hfin
        · cases h
      · cases h
    | fn hv hcap hrest =>
      rename_i g args args' cap cap' ds
      simp only [evDfs] at h
      split at h
      · rename_i hp
        split at h
        · rename_i out ho
          split at h
          · rename_i hc
            rw [Bool.and_eq_true, List.all_eq_true] at hc
            have hle : st.next ≤ out.next := Nat.le_of_ble_eq_true hc.1
            have hdirty : ∀ d ∈ out.dirty, d < st.next := fun d hd => by simpa [Nat.blt_eq] using hc.2 d hd
            have hss := hs.step (T := st.T) (evPlain_rest hcr ho) hle hdirty
            have hB' := (evDfs_ss hcr l _ st' h hss).2
            have hB1 : out.next ≤ B := Nat.le_trans hB' hB
            have hg' : ∀ g, g < cf.nb → ∃ k, ρ g = some (g, k) := fun g hgn => by
              obtain ⟨k, hk⟩ := hg g hgn
              exact ⟨k, hpost.sub _ _ hk⟩
            have hfr : ∀ n, st.next ≤ n → n < out.next → ρ n = none := fun n g1 g2 => by
              rw [hpost.ren n (by omega)]; exact hfree n (by omega) (by omega)
            have e : ((⟨args'⟩ : Array Value) ++ ⟨cap'⟩) = ⟨args' ++ cap'⟩ := by rw [← Array.toList_inj]; simp
            refine ⟨by simp, .inr ⟨fun h => by simp at h, .func g, ⟨cap'⟩, g, ⟨args' ++ cap'⟩, rfl, ?_, fun _ _ => trivial, ?_⟩⟩
            · simp only [invoke, e, plainFn_enter hp]
            · refine CallsDIn.mono (evPlain_ok hcr hco hm ho (hs.bound hb0) hrel hg' hfr (hv.append hcap) .returning) ?_
              rintro e u' w' ⟨rfl, v', ρ', rfl, hgood⟩
              have hstep := hR.step (T := st.T) (a' := { tmps := tmps, defers := [] }) hs' hdirty hgood (fun n g1 g2 => hfree n (by simp only at g1; omega) (by omega)) (ht.mono hgood.post.sub) rfl
              exact ih _ st' h hss hB ρ' ds w' (hrest.mono hgood.post.sub) hstep.tr hstep.rel hstep.post hfin
          · cases h
        · cases h
      · cases h

theorem evFn_rest (hcr : CallRest call) {f : FuncId} {args : List Value} {H : Tr VObj} {next : Nat} {out : Out} (h : evFn P call cf lf f args H next = some out) : SS next H ⟨.nil, [], out.H, out.next, out.dirty⟩ := by
  unfold evFn at h
  split at h
  · rename_i fn st he
    split at h
    · rename_i st' hd
      obtain ⟨vs, -, rfl⟩ := evLeave_ok h
      have := (evDfs_ss hcr _ _ _ hd (evEnter_ss hcr he)).1
      exact ⟨this.rest, this.le, this.old⟩
    · cases h
  · cases h

theorem evFn_ok (hcr : CallRest call) (hco : CallOk P cf call) (hm : P.follows .mixedOrders = true) {f : FuncId} {args : List Value} {H : Tr VObj} {next : Nat} {out : Out}
    (h : evFn P call cf lf f args H next = some out) (hb : ∀ n, (H.get n).isSome → n < next) {ρ : Ren} {w : World} {args' : List Value} (R : Rel ρ H.get w) (hg : ∀ g, g < cf.nb → ∃ k, ρ g = some (g, k))
    (hfree : ∀ n, next ≤ n → n < out.next → ρ n = none) (ha : VRs ρ args args') :
    Calls P f ⟨args'⟩ w fun e w' => ∃ v' ρ', e = .returned v' ∧ Good ρ H next w out v' ρ' w' := by
  unfold evFn at h
  split at h
  · rename_i fn st he
    have hss := evEnter_ss hcr he
    split at h
    · rename_i st' hd
      obtain ⟨vs, hvs, rfl⟩ := evLeave_ok h
      obtain ⟨hss', hle⟩ := evDfs_ss hcr _ _ _ hd hss
      obtain ⟨c, hfn, hc, hrun⟩ := evEnter_ok (B := st'.next) hcr hco hm he hb R hg hfree hle ha
      refine (callsIn_wide (n := 0)).1 ?_
      refine callsIn_of_wp_marks (F := FR none) hfn hc trivial (hrun _ fun ρ' a' w' ex hex hR => ?_)
      have fin : LeavesInM (FR none) 0 P fn a'.tmps (fun e w' => ∃ v' ρ', e = .returned v' ∧ Good ρ H next w ⟨oneOf vs, st'.H, st'.next, st'.dirty⟩ v' ρ' w') a'.defers .returning w' :=
        evDfs_ok hcr hco hm hb hg hfree st.df st st' hd hss (Nat.le_refl _) ρ' a'.defers w' hR.dr ⟨hR.tr.size, hR.tr.val⟩ hR.rel hR.post fun ρ'' w'' ht hrel hpost => by
          obtain ⟨v', h1, h2⟩ := results_ok (P := P) ht hrel hvs
          exact ⟨v', h2, v', ρ'', rfl, h1, hpost, hss'.rest, hss'.le⟩
      rcases hex with rfl | rfl <;> exact fin
    · cases h
  · cases h

end
end Go.Eng
