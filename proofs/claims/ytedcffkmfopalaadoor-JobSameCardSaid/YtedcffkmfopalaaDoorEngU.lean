import Derived.Test.YtedcffkmfopalaaDoorEngT
import Derived.Below
namespace Go.Eng
open Go

section
variable {P : Program} {call : Caller} {cf : Cfg} {lf : Nat}

theorem putZip_val : ∀ (ts : List Tmp) (vs : List Value) (T : Tr Value) (t : Nat), (∀ x ∈ ts, x < 1099511627775) → vs.length = ts.length →
    (putZip ts vs T).val t = (ts.zip vs).foldl (fun f p => fun t => if t = p.1 then p.2 else f t) T.val t
  | [], [], T, t, _, _ => rfl
  | [], _ :: _, _, _, _, h => by simp at h
  | _ :: _, [], _, _, _, h => by simp at h
  | x :: ts, v :: vs, T, t, hx, hl => by
    simp only [putZip, List.zip_cons_cons, List.foldl_cons]
    rw [putZip_val ts vs _ t (fun y hy => hx y (by simp [hy])) (by simpa using hl)]
    have e : (Tr.put (some v) wide T x).val = fun t => if t = x then v else T.val t := by
      funext t
      simp only [Tr.val, Tr.get_put' _ _ _ _ (hx x (by simp))]
      by_cases h : t = x <;> simp [h]
    rw [e]

theorem TR.zip {ρ : Ren} {nt : Nat} : ∀ (ts : List Tmp) {vs vs' : List Value} {F : Nat → Value} {tmps : Array Value}, VRs ρ vs vs' → vs.length = ts.length → (∀ x ∈ ts, x < nt) → TR ρ nt F { tmps := tmps, defers := [] } →
    TR ρ nt ((ts.zip vs).foldl (fun f p => fun t => if t = p.1 then p.2 else f t) F) { tmps := (ts.zip vs').foldl (fun tmps p => tmps.setIfInBounds p.1 p.2) tmps, defers := [] }
  | [], _, _, _, _, _, _, _, h => h
  | x :: ts, [], _, _, _, _, hl, _, _ => by simp at hl
  | x :: ts, v :: vs, _, F, tmps, .cons hv ht, hl, hx, h => by
    simp only [List.zip_cons_cons, List.foldl_cons]
    refine TR.zip ts ht (by simpa using hl) (fun y hy => hx y (by simp [hy])) ?_
    exact h.put hv (hx x (by simp))

theorem evRound_ss (hcr : CallRest call) {l : Nat} {args : List Value} {H : Tr VObj} {next : Nat} {out : Out} (h : evRound P call cf lf l args H next = some out) : SS next H ⟨.nil, [], out.H, out.next, out.dirty⟩ := by
  unfold evRound at h
  split at h
  · split at h
    · split at h
      · rename_i st1 h1
        have s1 := (evCode_ss hcr _ _ _ _ h1 SS.begin).1
        split at h
        · split at h
          · rename_i st2 h2
            have s2 := (setLoop_ss h2 s1).1
            have fin : ∀ nt body st3 ex s pe b, evCode P call cf nt next (some l) lf body st2 = some (ex, st3) → ((setLoop next st3 l s pe).map fun st4 => (⟨.bool b, st4.H, st4.next, st4.dirty⟩ : Out)) = some out → SS next H ⟨.nil, [], out.H, out.next, out.dirty⟩ := by
              intro nt body st3 ex s pe b h3 h4
              rw [Option.map_eq_some_iff] at h4
              obtain ⟨st4, h5, rfl⟩ := h4
              have s4 := (setLoop_ss h5 (evCode_ss hcr _ _ _ _ h3 s2).1).1
              exact ⟨s4.rest, s4.le, s4.old⟩
            split at h
            · rename_i st3 h3; exact fin _ _ _ _ _ _ _ h3 h
            · rename_i st3 h3; exact fin _ _ _ _ _ _ _ h3 h
            · rename_i id st3 h3; exact fin _ _ _ _ _ _ _ h3 h
            · cases h
          · cases h
        · cases h
      · cases h
    · cases h
  · cases h

theorem evRound_ok (hcr : CallRest call) (hco : CallOk P cf call) (hm : P.follows .mixedOrders = true) {l : Nat} {args : List Value} {H : Tr VObj} {next : Nat} {out : Out}
    (h : evRound P call cf lf l args H next = some out) (hb : ∀ n, (H.get n).isSome → n < next) {ρ : Ren} {w : World} {args' : List Value} (R : Rel ρ H.get w) (hg : ∀ g, g < cf.nb → ∃ k, ρ g = some (g, k))
    (hfree : ∀ n, next ≤ n → n < out.next → ρ n = none) (ha : VRs ρ args args') :
    TgtCalls P ρ (.round l) ⟨args'⟩ w fun e w' => ∃ v' ρ', e = .returned v' ∧ Good ρ H next w out v' ρ' w' := by
  unfold evRound at h
  split at h
  · rename_i pe0 nt T ps assign body D hg0
    split at h
    · rename_i hc
      simp only [Bool.and_eq_true, List.all_eq_true, Nat.blt_eq] at hc
      obtain ⟨⟨⟨hlen, hps⟩, hln⟩, hlt⟩ := hc
      have hlen' : args.length = ps.length := Nat.eq_of_beq_eq_true hlen
      obtain ⟨l', k, hl, fn, tmps, D', kD, hw, hsz, hv, hD⟩ := R.hr l _ hg0
      have hal := ha.length
      have hy := run_yield (P := P) (args := ⟨args'⟩) hw (by simp; omega)
      refine ⟨l', k, hl, _, _, _, _, hy, fun ro => ?_⟩
      split at h
      · rename_i st1 h1
        have s1 := (evCode_ss hcr _ _ _ _ h1 SS.begin).1
        split at h
        · rename_i pe1 nt1 T1 ps1 as1 bo1 D1 hg1
          split at h
          · rename_i st2 h2
            obtain ⟨s2, n2⟩ := setLoop_ss h2 s1
            -- where the round begins
            have hbegin : SR next H ρ w nt ρ ⟨putZip ps args T, [], H, next, []⟩ { tmps := ((⟨ps⟩ : Array Tmp).zip ⟨args'⟩).foldl (fun tmps p => tmps.setIfInBounds p.1 p.2) tmps, defers := [] } w := by
              refine SR.begin R ?_ rfl
              have ht : TR ρ nt T.val { tmps := tmps, defers := [] } := ⟨hsz, hv⟩
              have := TR.zip (ρ := ρ) (nt := nt) ps ha hlen' (fun x hx => (hps x hx).1) ht
              have e1 : (putZip ps args T).val = (ps.zip args).foldl (fun f p => fun t => if t = p.1 then p.2 else f t) T.val := by
                funext t; exact putZip_val ps args T t (fun x hx => by have := (hps x hx).2; simpa [nameOk, Nat.blt_eq] using this) hlen'
              have e2 : ((⟨ps⟩ : Array Tmp).zip ⟨args'⟩).foldl (fun tmps p => tmps.setIfInBounds p.1 p.2) tmps = (ps.zip args').foldl (fun tmps p => tmps.setIfInBounds p.1 p.2) tmps := by
                rw [← Array.foldl_toList]; simp
              rw [e1, e2]
              exact this
            have hror : RoR ρ (some l) (some l') := ⟨k, hl⟩
            have fin : ∀ st3 ex s pe b (jump : Option Code), evCode P call cf nt next (some l) lf body st2 = some (ex, st3) → ((setLoop next st3 l s pe).map fun st4 => (⟨.bool b, st4.H, st4.next, st4.dirty⟩ : Out)) = some out →
                (s = if jump.isNone then LoopState.ready else LoopState.done) → pe = jump → b = jump.isNone →
                (∀ (R' : Ending → World → Prop) a w, (∃ v w', (Instr.endRound l' jump).run P w = .ok v w' ∧ R' (.returned v) w') → roundPost P l' R' ex a w) →
                RoundIn (FR ro) 0 P l' fn (((⟨ps⟩ : Array Tmp).zip ⟨args'⟩).foldl (fun tmps p => tmps.setIfInBounds p.1 p.2) tmps) assign body w fun e w' => ∃ v' ρ', e = .returned v' ∧ Good ρ H next w out v' ρ' w' := by
              intro st3 ex s pe b jump h3 h4 hs hpe hbj hpost
              subst hpe
              rw [Option.map_eq_some_iff] at h4
              obtain ⟨st4, h5, rfl⟩ := h4
              have s3 := (evCode_ss hcr _ _ _ _ h3 s2)
              obtain ⟨s4, n4⟩ := setLoop_ss h5 s3.1
              have hst4 : st3.next ≤ st4.next := Nat.le_of_eq n4.symm
              have hfree' : ∀ n, next ≤ n → n < st4.next → ρ n = none := hfree
              refine roundIn_of_wpIn (F := FR ro) trivial ?_
              refine evCode_ok (ro := some l) (ro' := some l') hb hcr hco hm hg hfree' hror assign _ .normal st1 h1 SS.begin (by have := s3.2; omega) ρ _ w _ hbegin fun ρ1 a1 w1 hR1 => ?_
              obtain ⟨l2, k2, r, e1, e2, hR2⟩ := hR1.setLoop s1 h2
              have hl1 := hR1.post.sub _ _ hl
              rw [hl1] at e1
              injection e1 with e1; injection e1 with e1 _; subst e1
              obtain ⟨l3, k3, e3, fn3, tmps3, D3, kD3, e4, -⟩ := hR1.rel.hr l _ hg1
              rw [hl1] at e3
              injection e3 with e3; injection e3 with e3 _; subst e3
              rw [e2] at e4
              injection e4 with e4; injection e4 with e4
              have hready : r.state = .ready := by rw [e4]
              have hpend : r.pending = pe1 := by rw [e4]
              refine ⟨_, run_beginRound (P := P) e2 hready, ?_⟩
              have hobj : ({ r with state := .busy } : Loop) = { r with state := .busy, pending := pe1 } := by rw [← hpend]
              rw [hobj]
              refine evCode_ok (ro := some l) (ro' := some l') hb hcr hco hm hg hfree' hror body _ ex st3 h3 s2 (by omega) ρ1 a1 _ _ hR2 fun ρ3 a3 w3 hR3 => ?_
              obtain ⟨l4, k4, r4, e5, e6, hR4⟩ := hR3.setLoop s3.1 h5
              have hl3 := hR3.post.sub _ _ hl
              rw [hl3] at e5
              injection e5 with e5; injection e5 with e5 _; subst e5
              refine hpost _ a3 w3 ⟨_, _, run_endRound (P := P) pe e6, .bool pe.isNone, ρ3, rfl, ?_⟩
              rw [← hs]
              exact ⟨by rw [hbj]; exact VR.of_flat 1 (.bool pe.isNone) rfl, hR4.post, s4.rest, s4.le⟩
            split at h
            · rename_i st3 h3
              exact fin st3 .normal .ready none true none h3 h rfl rfl rfl fun _ _ _ h => h
            · rename_i st3 h3
              exact fin st3 .ret .done (some .ret) false (some .ret) h3 h rfl rfl rfl fun _ _ _ h => h
            · rename_i id st3 h3
              exact fin st3 (.exit id) .done (some (.exit id)) false (some (.exit id)) h3 h rfl rfl rfl fun _ _ _ h => h
            · cases h
          · cases h
        · cases h
      · cases h
    · cases h
  · cases h

theorem evCall_all (cf : Cfg) (lf : Nat) (hX : XOk P cf) (hm : P.follows .mixedOrders = true) : ∀ d : Nat, CallRest (evCall P cf lf d) ∧ CallOk P cf (evCall P cf lf d)
  | 0 => ⟨fun _ _ _ _ _ h => by simp [evCall] at h, hX, fun _ _ _ _ _ h => by simp [evCall] at h⟩
  | d + 1 => by
    obtain ⟨hcr, hco⟩ := evCall_all cf lf hX hm d
    refine ⟨fun f args H next out h => ?_, hX, fun f args H next out h ρ w args' R hb hg hfree ha => ?_⟩
    · cases f with
      | fn f => exact (evFn_rest hcr h).rest
      | round l => exact (evRound_ss hcr h).rest
    · cases f with
      | fn f => exact evFn_ok hcr hco hm h hb R hg hfree ha
      | round l => exact evRound_ok hcr hco hm h hb R hg hfree ha

/-- **A call whose arguments name no block, evaluated: it returns what was reckoned, and leaves what there was.** -/
theorem calls_of_ev {cf : Cfg} {lf d : Nat} (hX : XOk P cf) (hm : P.follows .mixedOrders = true) {f : FuncId} {args : List Value} {v : Value} {H : Tr VObj} {next : Nat} {out : Out} (he : evCall P cf lf d (.fn f) args H next = some out) (hv : out.v = v) (hf : flat 8 v = true)
    (hd : out.dirty = []) {ρ : Ren} {w : World} {args' : List Value} (R : Rel ρ H.get w) (hb : ∀ n, (H.get n).isSome → n < next) (hg : ∀ g, g < cf.nb → ∃ k, ρ g = some (g, k)) (hfree : ∀ n, next ≤ n → ρ n = none) (ha : VRs ρ args args') :
    Calls P f ⟨args'⟩ w fun e w' => e = .returned v ∧ RowKit.Below w.heap.size w w' := by
  refine Calls.mono ((evCall_all cf lf hX hm d).2.2 (.fn f) args H next out he ρ w args' R hb hg (fun n h _ => hfree n h) ha) ?_
  rintro e w' ⟨v', ρ', rfl, g⟩
  have hvv := VR.eq_of_flat 8 v v' hf (hv ▸ g.val)
  refine ⟨by rw [hvv], g.post.os, g.post.tape, g.post.output, g.post.size, fun k hk => g.post.frame k hk fun d k' hdd => ?_⟩
  rw [hd] at hdd; cases hdd

end
end Go.Eng
