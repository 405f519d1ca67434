import Derived.Test.YtedcffkmfopalaaDoorEngQ
namespace Go.Eng
open Go

section
variable {P : Program} {call : Caller} {cf : Cfg} {nt n0 : Nat} {H0 : Tr VObj} {ρ0 : Ren} {w0 : World}

theorem SR.newBlock {st : St} {ρ : Ren} {a : Act} {w : World} (h : SR n0 H0 ρ0 w0 nt ρ st a w) (hs : SS n0 H0 st) (hn : st.next < 1099511627775) (hfree : ρ0 st.next = none) {o : VObj} {ob : Obj}
    (ho : HR1 (upd ρ st.next (w.heap.size, 0)) st.next o (w.alloc ob)) : SR n0 H0 ρ0 w0 nt (upd ρ st.next (w.heap.size, 0)) (newBlock n0 st o) a (w.alloc ob) := by
  have hρ : ρ st.next = none := by rw [h.post.ren st.next (by omega)]; exact hfree
  have ec : ∀ n : Nat, (st.next ≤ n ∧ n < st.next + 1) ↔ n = st.next := fun n => by omega
  have hp : Post ρ st.H.get w (fun n => st.next ≤ n ∧ n < st.next + 1) (· ∈ ([] : List Nat)) (upd ρ st.next (w.heap.size, 0)) (Tr.put (some o) wide st.H st.next).get (w.alloc ob) := by
    have e2 : (fun m => m ∈ ([] : List Nat)) = fun _ => False := by funext m; simp
    simp only [ec, e2]
    refine Post.fresh hρ h.rel.lt ⟨rfl, rfl, rfl, rfl⟩ fun o' ho' => ?_
    rw [Tr.get_put' _ _ _ _ hn, if_pos rfl] at ho'
    injection ho' with ho'
    exact ho' ▸ ho
  exact h.step (out := ⟨undef, Tr.put (some o) wide st.H st.next, st.next + 1, []⟩) (v' := undef) (T := st.T) hs (fun d hd => by cases hd)
    ⟨undef_VR, hp, Rest.new hn, Nat.le_succ _⟩ (fun n h1 h2 => by simp only at h2; rw [show n = st.next by omega]; exact hfree) (h.tr.mono (upd_sub hρ)) rfl

theorem SR.setLoop {st st' : St} {ρ : Ren} {a : Act} {w : World} {l : Nat} {s : LoopState} {pe : Option Code} (h : SR n0 H0 ρ0 w0 nt ρ st a w) (hs : SS n0 H0 st) (hl : setLoop n0 st l s pe = some st') :
    ∃ l' k r, ρ l = some (l', k) ∧ w.heap[l']? = some (.loop r) ∧ SR n0 H0 ρ0 w0 nt ρ st' a (w.putObj l' (.loop { r with state := s, pending := pe })) := by
  unfold Eng.setLoop at hl
  split at hl
  · rename_i s0 pe0 nt0 T0 ps0 as0 bo0 D0 hg
    split at hl
    · rename_i hc
      rw [Bool.and_eq_true] at hc
      have hn : l < 1099511627775 := by simpa [nameOk, Nat.blt_eq] using hc.1
      have hlt : l < st.next := by simpa [Nat.blt_eq] using hc.2
      simp only [Option.some.injEq] at hl; subst hl
      obtain ⟨l', k, h1, fn, tmps, D', kD, h2, h3, h4, h5⟩ := h.rel.hr l _ hg
      refine ⟨l', k, _, h1, h2, ?_⟩
      have hsz := h.rel.live (by simp [hg]) h1
      have hp : Post ρ st.H.get w (fun n => st.next ≤ n ∧ n < st.next) (· ∈ [l]) ρ (Tr.put (some (VObj.lp s pe nt0 T0 ps0 as0 bo0 D0)) wide st.H l).get
          (w.putObj l' (.loop { state := s, pending := pe, fn, tmps, params := ⟨ps0⟩, assign := as0, body := bo0, defers := D' })) := by
        have e1 : (fun n => st.next ≤ n ∧ n < st.next) = fun _ => False := by funext n; simp only [eq_iff_iff, iff_false]; omega
        have e2 : (fun n => n ∈ [l]) = fun n => n = l := by funext n; simp
        simp only [e1, e2]
        refine Post.write (o := .lp s pe nt0 T0 ps0 as0 bo0 D0) h.rel.lt (by simp [hg]) h1 ⟨fun j hj => World.putObj_heap_other hj, by simp [World.putObj], rfl, rfl, rfl⟩ (by rw [Tr.get_put' _ _ _ _ hn, if_pos rfl]) ?_
        exact ⟨l', k, h1, fn, tmps, D', kD, World.putObj_heap_same hsz, h3, h4, h5⟩
      exact h.step (out := ⟨undef, _, st.next, [l]⟩) (v' := undef) (T := st.T) hs (fun d hd => by simp only [List.mem_singleton] at hd; subst hd; exact hlt)
        ⟨undef_VR, hp, rest_put hc.1, Nat.le_refl _⟩ (fun n h1 h2 => by simp only at h2; omega) h.tr rfl
    · cases hl
  · cases hl

theorem evRangeGo_ok (hb0 : ∀ n, (H0.get n).isSome → n < n0) (hcr : CallRest call) (hco : CallOk P cf call) {B : Nat} (hg0 : ∀ g, g < cf.nb → ∃ k, ρ0 g = some (g, k)) (hfree : ∀ n, n0 ≤ n → n < B → ρ0 n = none) {st st' : St} {L g : Nat} {args args' : List Value} {ex : Exit} (h : evRangeGo call n0 st L g args = some (ex, st'))
    (hs : SS n0 H0 st) (hB : st'.next ≤ B) {ρ : Ren} {a : Act} {w : World} (hR : SR n0 H0 ρ0 w0 nt ρ st a w) (ha : VRs ρ args args') {L' k : Nat} (hL : ρ L = some (L', k)) {ro' : Option Nat} {Q : Exit → Act → World → Prop}
    (hQ : ∀ ρ' a' w', SR n0 H0 ρ0 w0 nt ρ' st' a' w' → Q ex a' w') : CallsIn (FR ro') 0 P g ⟨args'⟩ w (rangePost (FR ro') 0 P L' Q a) := by
  have hss := evRangeGo_ss (H0 := H0) hcr h hs
  unfold evRangeGo at h
  split at h
  · rename_i out ho
    split at h
    · rename_i hc
      rw [Bool.and_eq_true, List.all_eq_true] at hc
      have hle : st.next ≤ out.next := Nat.le_of_ble_eq_true hc.1
      have hdirty : ∀ d ∈ out.dirty, d < st.next := fun d hd => by simpa [Nat.blt_eq] using hc.2 d hd
      have h1 := hs.step (T := st.T) (hcr _ _ _ _ _ ho) hle hdirty
      have hn0 := hs.le
      dsimp only at h
      split at h
      · rename_i s pe nt' T' ps' as' bo' D' hg
        split at h
        · cases h
        · rename_i hnb
          split at h
          · rename_i st'' hset
            have hnext := (setLoop_ss hset h1).2
            have hst' : st'' = st' := by
              split at h
              · simp only [Option.some.injEq, Prod.mk.injEq] at h; exact h.2
              · simp only [Option.some.injEq, Prod.mk.injEq] at h; exact h.2
              · simp only [Option.some.injEq, Prod.mk.injEq] at h; exact h.2
              · cases h
            have hout : out.next ≤ B := by rw [← hst', hnext] at hB; exact hB
            have hfr : ∀ n, st.next ≤ n → n < out.next → ρ n = none := fun n g1 g2 => by
              rw [hR.post.ren n (by omega)]; exact hfree n (by omega) (by omega)
            refine callsIn_fr (Calls.mono (hco.2 _ _ _ _ _ ho ρ w args' hR.rel (hs.bound hb0) (fun g hgn => by obtain ⟨k, hk⟩ := hg0 g hgn; exact ⟨k, hR.post.sub _ _ hk⟩) hfr ha) fun e w1 he => ?_)
            obtain ⟨v', ρ1, rfl, hgood⟩ := he
            have hR1 := hR.step (T := st.T) hs hdirty hgood (fun n g1 g2 => hfree n (by omega) (by omega)) (hR.tr.mono hgood.post.sub) rfl
            obtain ⟨l', kk, r, e1, e2, hR2⟩ := hR1.setLoop h1 hset
            have hL1 := hgood.post.sub _ _ hL
            rw [hL1] at e1
            injection e1 with e1; injection e1 with e1 _; subst e1
            -- the record that is read
            obtain ⟨l2, k2, e3, fn, tmps, D2, kD, e4, -⟩ := hR1.rel.hr L _ hg
            have e3' : ρ1 L = some (l2, k2) := e3
            rw [hL1] at e3'
            injection e3' with e3'; injection e3' with e3' _; subst e3'
            rw [e2] at e4
            injection e4 with e4; injection e4 with e4
            have hns : r.state ≠ .busy := by
              rw [e4]; simp only
              intro hb
              exact hnb hb
            have hend := run_endLoop (P := P) e2 hns
            have hpe : r.pending = pe := by rw [e4]
            rw [hpe] at hend
            refine ⟨pe, _, hend, ?_⟩
            rw [hst'] at hR2 h
            split at h
            · simp only [Option.some.injEq, Prod.mk.injEq] at h; obtain ⟨rfl, -⟩ := h
              exact hQ _ _ _ hR2
            · simp only [Option.some.injEq, Prod.mk.injEq] at h; obtain ⟨rfl, -⟩ := h
              exact wpIn_ret (hQ _ _ _ hR2)
            · simp only [Option.some.injEq, Prod.mk.injEq] at h; obtain ⟨rfl, -⟩ := h
              exact wpIn_exit (hQ _ _ _ hR2)
            · cases h
          · cases h
      · cases h
    · cases h
  · cases h

/-- The round's loop, virtually and in the world. -/
def RoR (ρ : Ren) : Option Nat → Option Nat → Prop
  | none, none => True
  | some l, some l' => ∃ k, ρ l = some (l', k)
  | _, _ => False

theorem plainFn_enter {g : FuncId} (hp : plainFn P g = true) {args : Array Value} {w : World} : (callFunc g args).run P w = .ok (.enter g args) w := by
  unfold plainFn at hp
  cases hfn : P.funcs[g]? with
  | none => simp [hfn] at hp
  | some fn =>
    simp only [hfn, Bool.and_eq_true, Bool.not_eq_true', beq_eq_false_iff_ne] at hp
    obtain ⟨hne, hbody⟩ := hp
    have hnb : fn.body ≠ none := by intro hbd; simp [hbd] at hbody
    simp [callFunc, hfn, hne, hnb]

theorem evRange_ok (hb0 : ∀ n, (H0.get n).isSome → n < n0) (hcr : CallRest call) (hco : CallOk P cf call) {B : Nat} (hg : ∀ g, g < cf.nb → ∃ k, ρ0 g = some (g, k)) (hfree : ∀ n, n0 ≤ n → n < B → ρ0 n = none) {ro ro' : Option Nat} (hro : RoR ρ0 ro ro')
    {f : Operand} {ps : Array Tmp} {assign body : Code} {st st' : St} {ex : Exit} (h : evRange P call cf nt n0 ro f ps assign body st = some (ex, st')) (hs : SS n0 H0 st) (hB : st'.next ≤ B)
    {ρ : Ren} {a : Act} {w : World} {Q : Exit → Act → World → Prop} (hR : SR n0 H0 ρ0 w0 nt ρ st a w) (hQ : ∀ ρ' a' w', SR n0 H0 ρ0 w0 nt ρ' st' a' w' → Q ex a' w') :
    (Code.rangeFunc f ps assign body).wpIn (FR ro') 0 P Q a w := by
  have hn0 := hs.le
  have hg' : ∀ g, g < cf.nb → ∃ k, ρ g = some (g, k) := fun g hgn => by
    obtain ⟨k, hk⟩ := hg g hgn
    exact ⟨k, hR.post.sub _ _ hk⟩
  unfold evRange at h
  split at h
  · rename_i hc
    rw [Bool.and_eq_true] at hc
    have hn : st.next + 2 < 1099511627775 := by simpa [nameOk, Nat.blt_eq] using hc.2
    have hf := env_ok hR.tr hg' hc.1
    split at h
    · rename_i g first cap hv
      rw [hv] at hf
      obtain ⟨first', cap', hv1, hv2, he⟩ := hf.func_inv
      split at h
      · rename_i hp
        have hres : ∀ (l : Nat) (W : World), (resolve a.eval (rangeCall f l) 0).run P W = .ok { target := .fn (.func g) ⟨cap'⟩, args := ⟨first' ++ [.func (.yield l) #[] #[]]⟩ } W := fun l W => by
          have hk : ∀ v, a.eval (.const v) = v := fun _ => rfl
          have e : ((⟨first'⟩ : Array Value) ++ #[.func (.yield l) #[] #[]]) = ⟨first' ++ [.func (.yield l) #[] #[]]⟩ := by rw [← Array.toList_inj]; simp
          simp [resolve, he, Deferred.ofValue, hk, e]
        have hinv : ∀ (l : Nat) (W : World), (invoke (.fn (.func g) ⟨cap'⟩) ⟨first' ++ [.func (.yield l) #[] #[]]⟩).run P W = .ok (.enter g ⟨first' ++ [.func (.yield l) #[] #[]] ++ cap'⟩) W := fun l W => by
          have e : ((⟨first' ++ [.func (.yield l) #[] #[]]⟩ : Array Value) ++ ⟨cap'⟩) = ⟨first' ++ [.func (.yield l) #[] #[]] ++ cap'⟩ := by rw [← Array.toList_inj]; simp
          simp only [invoke, e, plainFn_enter hp]
        cases ro with
        | none =>
          cases ro' with
          | some _ => exact hro.elim
          | none =>
            simp only at h
            have h1 := newBlock_ss (n0 := n0) (H0 := H0) (o := .other (.deferred (some []))) (show st.next < 1099511627775 by omega) hs
            have h1' : SS n0 H0 { newBlock n0 st (.other (.deferred (some []))) with df := .mark st.next :: st.df } := ⟨h1.rest, h1.le, h1.old⟩
            have h2 := newBlock_ss (n0 := n0) (H0 := H0) (o := .lp .ready none nt st.T ps.toList assign body st.next) (st := { newBlock n0 st (.other (.deferred (some []))) with df := .mark st.next :: st.df })
              (show st.next + 1 < 1099511627775 by omega) h1'
            have hle := (evRangeGo_ss hcr h h2).2
            have hle' : st.next + 2 ≤ B := Nat.le_trans hle hB
            refine wpIn_rangeFunc fun fn _ => ⟨w.heap.size + 1, [{ target := .collected w.heap.size, args := #[] }], _, _, _, g, _, _, run_enterLoop_outer fn a.tmps ps assign body, hres _ _, fun _ _ => trivial, hinv _ _, fun h => by simp at h, ?_⟩
            have hR1 := hR.newBlock hs (show st.next < 1099511627775 by omega) (hfree st.next hn0 (by omega)) (o := .other (.deferred (some []))) (ob := .deferred (some [])) ⟨_, _, upd_self _ _ _, World.alloc_heap_new _ _⟩
            have hρ : ρ st.next = none := by rw [hR.post.ren st.next (by omega)]; exact hfree st.next hn0 (by omega)
            have hR1' : SR n0 H0 ρ0 w0 nt (upd ρ st.next (w.heap.size, 0)) { newBlock n0 st (.other (.deferred (some []))) with df := .mark st.next :: st.df }
                { a with defers := [{ target := .collected w.heap.size, args := #[] }] ++ a.defers } (w.alloc (.deferred (some []))) :=
              ⟨⟨hR1.tr.size, hR1.tr.val⟩, .mark (upd_self _ _ _) (hR.dr.mono (upd_sub hρ)), hR1.rel, hR1.post⟩
            have hρ1 : upd ρ st.next (w.heap.size, 0) (st.next + 1) = none := by
              rw [upd_ne _ _ (by omega), hR.post.ren (st.next + 1) (by omega)]; exact hfree _ (by omega) (by omega)
            have hR2 := hR1'.newBlock h1' (show st.next + 1 < 1099511627775 by omega) (hfree (st.next + 1) (by omega) (by omega)) (o := .lp .ready none nt st.T ps.toList assign body st.next)
              (ob := .loop { state := .ready, pending := none, fn, tmps := a.tmps, params := ps, assign, body, defers := w.heap.size })
              ⟨_, _, upd_self _ _ _, fn, a.tmps, w.heap.size, 0, World.alloc_heap_new _ _, hR.tr.size, fun t => (hR1'.tr.val t).mono (upd_sub hρ1), by
                show upd (upd ρ st.next (w.heap.size, 0)) (st.next + 1) _ st.next = _
                rw [upd_ne _ _ (by omega)]; exact upd_self _ _ _⟩
            have hsz : (w.alloc (.deferred (some []))).heap.size = w.heap.size + 1 := by simp
            rw [hsz] at hR2
            have hsub : Sub ρ (upd (upd ρ st.next (w.heap.size, 0)) (st.next + 1) (w.heap.size + 1, 0)) := fun n x hx => upd_sub hρ1 _ _ (upd_sub hρ _ _ hx)
            exact evRangeGo_ok (ro' := none) hb0 hcr hco hg hfree h h2 hB hR2 (((hv1.mono hsub).append (.cons (.yield (upd_self _ _ _)) .nil)).append (hv2.mono hsub)) (upd_self _ _ _) hQ
        | some l0 =>
          cases ro' with
          | none => exact hro.elim
          | some l0' =>
            simp only at h
            split at h
            · rename_i s pe nt2 T2 ps2 as2 bo2 D2 hl0
              obtain ⟨k0, hk0⟩ := hro
              have hk0' := hR.post.sub _ _ hk0
              obtain ⟨l2, k2, e3, fn2, tmps2, D3, kD, e4, e5, e6, e7⟩ := hR.rel.hr l0 _ hl0
              rw [hk0'] at e3
              injection e3 with e3; injection e3 with e3 _; subst e3
              have h2 := newBlock_ss (n0 := n0) (H0 := H0) (o := .lp .ready none nt st.T ps.toList assign body D2) (show st.next < 1099511627775 by omega) hs
              have hle := (evRangeGo_ss hcr h h2).2
              have hle' : st.next + 1 ≤ B := Nat.le_trans hle hB
              have hρ : ρ st.next = none := by rw [hR.post.ren st.next (by omega)]; exact hfree st.next hn0 (by omega)
              refine wpIn_rangeFunc fun fn _ => ⟨w.heap.size, [], _, _, _, g, _, _, run_enterLoop_inner e4 fn a.tmps ps assign body, hres _ _, fun _ _ => trivial, hinv _ _, fun h => by simp at h, ?_⟩
              have hR2 := hR.newBlock hs (show st.next < 1099511627775 by omega) (hfree st.next hn0 (by omega)) (o := .lp .ready none nt st.T ps.toList assign body D2)
                (ob := .loop { state := .ready, pending := none, fn, tmps := a.tmps, params := ps, assign, body, defers := D3 })
                ⟨_, _, upd_self _ _ _, fn, a.tmps, D3, kD, World.alloc_heap_new _ _, hR.tr.size, fun t => (hR.tr.val t).mono (upd_sub hρ), upd_sub hρ _ _ e7⟩
              exact evRangeGo_ok (ro' := some l0') hb0 hcr hco hg hfree h h2 hB hR2 (((hv1.mono (upd_sub hρ)).append (.cons (.yield (upd_self _ _ _)) .nil)).append (hv2.mono (upd_sub hρ))) (upd_self _ _ _) hQ
            · cases h
      · cases h
    · cases h
  · cases h

theorem evCode_ok (hb0 : ∀ n, (H0.get n).isSome → n < n0) (hcr : CallRest call) (hco : CallOk P cf call) (hm : P.follows .mixedOrders = true) {B : Nat} (hg : ∀ g, g < cf.nb → ∃ k, ρ0 g = some (g, k)) (hfree : ∀ n, n0 ≤ n → n < B → ρ0 n = none)
    {ro ro' : Option Nat} (hro : RoR ρ0 ro ro') {lf : Nat} : ∀ (c : Code) (st : St) (ex : Exit) (st' : St), evCode P call cf nt n0 ro lf c st = some (ex, st') → SS n0 H0 st → st'.next ≤ B →
    ∀ (ρ : Ren) (a : Act) (w : World) (Q : Exit → Act → World → Prop), SR n0 H0 ρ0 w0 nt ρ st a w → (∀ ρ' a' w', SR n0 H0 ρ0 w0 nt ρ' st' a' w' → Q ex a' w') → c.wpIn (FR ro') 0 P Q a w := by
  have hro2 : ro = none → ro' = none := fun h => by subst h; cases ro' with | none => rfl | some _ => exact hro.elim
  intro c
  induction c with
  | skip => intro st ex st' h hs hB ρ a w Q hR hQ; simp only [evCode, Option.some.injEq, Prod.mk.injEq] at h; obtain ⟨rfl, rfl⟩ := h; exact wpIn_skip (hQ _ _ _ hR)
  | label l => intro st ex st' h hs hB ρ a w Q hR hQ; simp only [evCode, Option.some.injEq, Prod.mk.injEq] at h; obtain ⟨rfl, rfl⟩ := h; exact wpIn_label (hQ _ _ _ hR)
  | exit l => intro st ex st' h hs hB ρ a w Q hR hQ; simp only [evCode, Option.some.injEq, Prod.mk.injEq] at h; obtain ⟨rfl, rfl⟩ := h; exact wpIn_exit (hQ _ _ _ hR)
  | ret => intro st ex st' h hs hB ρ a w Q hR hQ; simp only [evCode, Option.some.injEq, Prod.mk.injEq] at h; obtain ⟨rfl, rfl⟩ := h; exact wpIn_ret (hQ _ _ _ hR)
  | region id ops draw =>
    intro st ex st' h hs hB ρ a w Q hR hQ
    simp only [evCode, Option.map_eq_some_iff, Prod.mk.injEq] at h
    obtain ⟨st1, h1, rfl, rfl⟩ := h
    exact evRegion_ok hb0 hcr hco hm hro2 hg hfree h1 hs hB hR hQ
  | seq x y ihx ihy =>
    intro st ex st' h hs hB ρ a w Q hR hQ
    simp only [evCode] at h
    split at h
    · rename_i st1 h1
      obtain ⟨h2, h3⟩ := evCode_ss (H0 := H0) hcr _ _ _ _ h1 hs
      obtain ⟨h4, h5⟩ := evCode_ss (H0 := H0) hcr _ _ _ _ h h2
      exact wpIn_seq (ihx _ _ _ h1 hs (by omega) ρ a w _ hR fun ρ' a' w' hR' => ihy _ _ _ h h2 hB ρ' a' w' Q hR' hQ)
    · rename_i hne
      refine wpIn_seq (ihx _ _ _ h hs hB ρ a w _ hR fun ρ' a' w' hR' => ?_)
      cases ex with
      | normal => exact absurd h (hne st')
      | _ => exact hQ ρ' a' w' hR'
  | cond c x y ihx ihy =>
    intro st ex st' h hs hB ρ a w Q hR hQ
    simp only [evCode] at h
    split at h
    · rename_i hoc
      have hg' : ∀ g, g < cf.nb → ∃ k, ρ g = some (g, k) := fun g hgn => by
        obtain ⟨k, hk⟩ := hg g hgn
        exact ⟨k, hR.post.sub _ _ hk⟩
      have hc := env_ok hR.tr hg' hoc
      split at h
      · rename_i t hv
        rw [hv] at hc
        refine wpIn_cond hc.bool_inv ?_
        split at h
        · rename_i ht; rw [if_pos ht]; exact ihx _ _ _ h hs hB ρ a w Q hR hQ
        · rename_i ht; rw [if_neg ht]; exact ihy _ _ _ h hs hB ρ a w Q hR hQ
      · cases h
    · cases h
  | block id c ih =>
    intro st ex st' h hs hB ρ a w Q hR hQ
    simp only [evCode] at h
    split at h
    · rename_i id' st1 h1
      split at h
      · rename_i hid
        simp only [Option.some.injEq, Prod.mk.injEq] at h; obtain ⟨rfl, rfl⟩ := h
        refine wpIn_block (ih _ _ _ h1 hs hB ρ a w _ hR fun ρ' a' w' hR' => ?_)
        simp only [Exit.inBlock, hid, if_true]
        exact hQ ρ' a' w' hR'
      · rename_i hid
        simp only [Option.some.injEq, Prod.mk.injEq] at h; obtain ⟨rfl, rfl⟩ := h
        refine wpIn_block (ih _ _ _ h1 hs hB ρ a w _ hR fun ρ' a' w' hR' => ?_)
        simp only [Exit.inBlock, hid, if_false]
        exact hQ ρ' a' w' hR'
    · rename_i hne
      refine wpIn_block (ih _ _ _ h hs hB ρ a w _ hR fun ρ' a' w' hR' => ?_)
      cases ex with
      | exit id' => exact absurd h (hne id' st')
      | _ => exact hQ ρ' a' w' hR'
  | loop c ih =>
    intro st ex st' h hs hB ρ a w Q hR hQ
    simp only [evCode] at h
    refine wpIn_loopN (fun n a w => ∃ st1 ρ1, iter (evCode P call cf nt n0 ro lf c) n st1 = some (ex, st') ∧ SS n0 H0 st1 ∧ SR n0 H0 ρ0 w0 nt ρ1 st1 a w) ?_ lf a w ⟨st, ρ, h, hs, hR⟩
    rintro n a1 w1 ⟨st1, ρ1, h1, hs1, hR1⟩
    cases n with
    | zero => simp [iter] at h1
    | succ n =>
      simp only [iter] at h1
      split at h1
      · rename_i st2 h2
        obtain ⟨g1, g2⟩ := evCode_ss (H0 := H0) hcr _ _ _ _ h2 hs1
        obtain ⟨g3, g4⟩ := iter_ss (H0 := H0) (fun st ex st' h hs => evCode_ss hcr c st ex st' h hs) _ _ _ _ h1 g1
        exact ih _ _ _ h2 hs1 (by omega) ρ1 a1 w1 _ hR1 fun ρ' a' w' hR' => ⟨n, Nat.lt_succ_self _, st2, ρ', h1, g1, hR'⟩
      · rename_i hne
        refine ih _ _ _ h1 hs1 hB ρ1 a1 w1 _ hR1 fun ρ' a' w' hR' => ?_
        cases ex with
        | normal => exact absurd h1 (hne st')
        | _ => exact hQ ρ' a' w' hR'
  | rangeFunc f ps assign body _ _ =>
    intro st ex st' h hs hB ρ a w Q hR hQ
    simp only [evCode] at h
    exact evRange_ok hb0 hcr hco hg hfree hro h hs hB hR hQ
  | scope c _ => intro st ex st' h; simp [evCode] at h
  | goto l => intro st ex st' h; simp [evCode] at h
  | refuse s => intro st ex st' h; simp [evCode] at h

end
end Go.Eng
