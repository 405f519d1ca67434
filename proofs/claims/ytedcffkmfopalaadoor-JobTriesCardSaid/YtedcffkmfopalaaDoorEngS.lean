import Derived.Test.YtedcffkmfopalaaDoorEngR
namespace Go.Eng
open Go

section
variable (P : Program)

noncomputable def putAll : List Value → Nat → Tr Value → Tr Value
  | [], _, T => T
  | v :: l, i, T => putAll l (i + 1) (Tr.put (some v) wide T i)

noncomputable def resV (T : Tr Value) (H : Tr VObj) : List ResultVar → Option (List Value)
  | [] => some []
  | .tmp t :: l => (resV T H l).map (T.val t :: ·)
  | .cell a ty :: l =>
    match T.val a with
    | .pointer (some ⟨b, of, none⟩) =>
      match H.get b with
      | some (.row cs _ _ _) =>
        match rowV P ty cs of with
        | some v => (resV T H l).map (v :: ·)
        | none => none
      | _ => none
    | _ => none

def oneOf : List Value → Value
  | [v] => v
  | l => .tuple ⟨l⟩

/-- A function's body, up to its end. -/
noncomputable def evEnter (call : Caller) (cf : Cfg) (lf : Nat) (f : FuncId) (args : List Value) (H : Tr VObj) (next : Nat) : Option (Func × St) :=
  match P.funcs[f]? with
  | some fn =>
    match fn.body with
    | some c =>
      if nameOk (args.length + fn.ntmps) then
        match evCode P call cf (max args.length fn.ntmps) next none lf c ⟨putAll args 0 .nil, [], H, next, []⟩ with
        | some (.normal, st) => some (fn, st)
        | some (.ret, st) => some (fn, st)
        | _ => none
      else none
    | none => none
  | none => none

noncomputable def evLeave (fn : Func) (st : St) : Option Out := (resV P st.T st.H fn.results.toList).map fun vs => ⟨oneOf vs, st.H, st.next, st.dirty⟩

/-- A deferred function: it defers nothing itself. -/
noncomputable def evPlain (call : Caller) (cf : Cfg) (lf : Nat) (f : FuncId) (args : List Value) (H : Tr VObj) (next : Nat) : Option Out :=
  match evEnter P call cf lf f args H next with
  | some (fn, st) =>
    match st.df with
    | [] => evLeave P fn st
    | _ => none
  | none => none

noncomputable def evDfs (call : Caller) (cf : Cfg) (lf n0 : Nat) : List Df → St → Option St
  | [], st => some st
  | .mark r :: l, st =>
    match st.H.get r with
    | some (.other (.deferred (some []))) => if nameOk r && Nat.blt r st.next then evDfs call cf lf n0 l (withH n0 st (Tr.put (some (.other (.deferred none))) wide st.H r) st.next [r]) else none
    | _ => none
  | .fn g args cap :: l, st =>
    if plainFn P g then
      match evPlain P call cf lf g (args ++ cap) st.H st.next with
      | some out => if Nat.ble st.next out.next && out.dirty.all (fun d => Nat.blt d st.next) then evDfs call cf lf n0 l (addOut n0 st st.T out) else none
      | none => none
    else none

noncomputable def evFn (call : Caller) (cf : Cfg) (lf : Nat) (f : FuncId) (args : List Value) (H : Tr VObj) (next : Nat) : Option Out :=
  match evEnter P call cf lf f args H next with
  | some (fn, st) =>
    match evDfs P call cf lf next st.df st with
    | some st' => evLeave P fn st'
    | none => none
  | none => none

noncomputable def putZip : List Tmp → List Value → Tr Value → Tr Value
  | t :: ts, v :: vs, T => putZip ts vs (Tr.put (some v) wide T t)
  | _, _, T => T

noncomputable def evRound (call : Caller) (cf : Cfg) (lf : Nat) (l : Nat) (args : List Value) (H : Tr VObj) (next : Nat) : Option Out :=
  match H.get l with
  | some (.lp .ready _ nt T ps assign body _) =>
    if Nat.beq args.length ps.length && ps.all (fun t => Nat.blt t nt && nameOk t) && nameOk l && Nat.blt l next then
      match evCode P call cf nt next (some l) lf assign ⟨putZip ps args T, [], H, next, []⟩ with
      | some (.normal, st1) =>
        match st1.H.get l with
        | some (.lp .ready pe1 _ _ _ _ _ _) =>
          match setLoop next st1 l .busy pe1 with
          | some st2 =>
            match evCode P call cf nt next (some l) lf body st2 with
            | some (.normal, st3) => (setLoop next st3 l .ready none).map fun st4 => ⟨.bool true, st4.H, st4.next, st4.dirty⟩
            | some (.ret, st3) => (setLoop next st3 l .done (some .ret)).map fun st4 => ⟨.bool false, st4.H, st4.next, st4.dirty⟩
            | some (.exit id, st3) => (setLoop next st3 l .done (some (.exit id))).map fun st4 => ⟨.bool false, st4.H, st4.next, st4.dirty⟩
            | _ => none
          | none => none
        | _ => none
      | _ => none
    else none
  | _ => none

noncomputable def evCall (cf : Cfg) (lf : Nat) : Nat → Caller
  | 0 => fun _ _ _ _ => none
  | d + 1 => fun f args H next =>
    match f with
    | .fn f => evFn P (evCall cf lf d) cf lf f args H next
    | .round l => evRound P (evCall cf lf d) cf lf l args H next

end

section
variable {P : Program} {call : Caller} {cf : Cfg} {lf : Nat}

theorem SS.begin {H : Tr VObj} {next : Nat} {T : Tr Value} : SS next H ⟨T, [], H, next, []⟩ := ⟨fun _ _ _ => rfl, Nat.le_refl _, fun _ h => by cases h⟩

theorem putAll_val : ∀ (l : List Value) (i : Nat) (T : Tr Value) (t : Nat), i + l.length < 1099511627775 → (putAll l i T).val t = if h : i ≤ t ∧ t - i < l.length then l[t - i]'h.2 else T.val t
  | [], i, T, t, _ => by simp [putAll]
  | v :: l, i, T, t, hl => by
    simp only [List.length_cons] at hl
    simp only [putAll]
    rw [putAll_val l (i + 1) _ t (by omega)]
    by_cases h : i + 1 ≤ t ∧ t - (i + 1) < l.length
    · rw [dif_pos h, dif_pos ⟨by omega, by simp; omega⟩]
      have : t - i = (t - (i + 1)) + 1 := by omega
      simp only [this, List.getElem_cons_succ]
    · rw [dif_neg h]
      simp only [Tr.val, Tr.get_put' _ _ _ _ (show i < 1099511627775 by omega)]
      by_cases e : t = i
      · subst e
        rw [if_pos rfl, dif_pos ⟨Nat.le_refl _, by simp⟩]
        simp
      · rw [if_neg e, dif_neg (by simp; omega)]

theorem TR.begin {ρ : Ren} {args args' : List Value} (h : VRs ρ args args') {n : Nat} (hn : nameOk (args.length + n) = true) :
    TR ρ (max args.length n) (putAll args 0 .nil).val { tmps := (⟨args'⟩ : Array Value) ++ Array.replicate (n - (⟨args'⟩ : Array Value).size) undef, defers := [] } := by
  have hl := h.length
  have hn' : args.length + n < 1099511627775 := by simpa [nameOk, Nat.blt_eq] using hn
  refine ⟨by simp; omega, fun t => ?_⟩
  rw [putAll_val args 0 .nil t (by omega)]
  simp only [Array.getD_eq_getD_getElem?]
  by_cases h1 : 0 ≤ t ∧ t - 0 < args.length
  · rw [dif_pos h1]
    have hlt : t < args.length := by omega
    obtain ⟨v', e1, e2⟩ := h.get (List.getElem?_eq_getElem hlt)
    rw [Array.getElem?_append_left (by simp; omega)]
    simp only [List.getElem?_toArray, e1, Option.getD_some, Nat.sub_zero]
    exact e2
  · rw [dif_neg h1]
    have hge : args.length ≤ t := by omega
    rw [Array.getElem?_append_right (by simp; omega)]
    simp only [Array.getElem?_replicate]
    split <;> exact undef_VR

def resF (tmps : Array Value) : ResultVar → Sem Value
  | .tmp t => pure (tmps.getD t undef)
  | .cell x ty => do loadVar ty (← asAddr (tmps.getD x undef))

theorem resV_ok {ρ : Ren} {nt : Nat} {T : Tr Value} {H : Tr VObj} {a : Act} {w : World} (htr : TR ρ nt T.val a) (R : Rel ρ H.get w) : ∀ {l : List ResultVar} {vs : List Value}, resV P T H l = some vs →
    ∃ vs', VRs ρ vs vs' ∧ (l.mapM (resF a.tmps)).run P w = .ok vs' w
  | [], vs, h => by simp only [resV, Option.some.injEq] at h; subst h; exact ⟨[], .nil, by simp⟩
  | .tmp t :: l, vs, h => by
    simp only [resV, Option.map_eq_some_iff] at h
    obtain ⟨vs1, h1, rfl⟩ := h
    obtain ⟨vs', h2, h3⟩ := resV_ok htr R h1
    refine ⟨_ :: vs', .cons (htr.val t) h2, ?_⟩
    rw [List.mapM_cons]
    have ha : (resF a.tmps (.tmp t)).run P w = .ok (a.tmps.getD t undef) w := rfl
    simp only [Sem.run_bind, ha, Result.andThen_ok, h3, Sem.run_pure]
  | .cell x ty :: l, vs, h => by
    simp only [resV] at h
    split at h
    · rename_i b of hv
      split at h
      · rename_i cs e lo fr hg
        split at h
        · rename_i v hr
          rw [Option.map_eq_some_iff] at h
          obtain ⟨vs1, h1, rfl⟩ := h
          obtain ⟨vs', h2, h3⟩ := resV_ok htr R h1
          have hx := htr.val x
          rw [hv] at hx
          obtain ⟨b', k, hb, he⟩ := hx.ptr_inv
          obtain ⟨b2, k2, c', g1, g2, g3, g4⟩ := (R.hr b _ hg).row
          simp only at hb he
          rw [g1] at hb; injection hb with hb; injection hb with hb _; subst hb
          obtain ⟨v', hv', hrun⟩ := rowV_ok hr g2 g3 g4
          refine ⟨v' :: vs', .cons hv' h2, ?_⟩
          rw [List.mapM_cons]
          have ha : (resF a.tmps (.cell x ty)).run P w = .ok v' w := by
            simp only [resF, Sem.run_bind, he, asAddr, Sem.run_pure, Result.andThen_ok, hrun]
          simp only [Sem.run_bind, ha, Result.andThen_ok, h3, Sem.run_pure]
        · cases h
      · cases h
    · cases h

theorem oneOf_ok {ρ : Ren} {vs vs' : List Value} (h : VRs ρ vs vs') : VR ρ (oneOf vs) (oneOf vs') := by
  cases h with
  | nil => exact .tuple .nil
  | cons h t =>
    cases t with
    | nil => exact h
    | cons h2 t => exact .tuple (.cons h (.cons h2 t))

theorem results_ok {ρ : Ren} {nt : Nat} {fn : Func} {st : St} {a : Act} {w : World} {vs : List Value} (htr : TR ρ nt st.T.val a) (R : Rel ρ st.H.get w) (h : resV P st.T st.H fn.results.toList = some vs) :
    ∃ v', VR ρ (oneOf vs) v' ∧ (results fn a.tmps).run P w = .ok v' w := by
  obtain ⟨vs', h1, h2⟩ := resV_ok (P := P) htr R h
  refine ⟨oneOf vs', oneOf_ok h1, ?_⟩
  have e : results fn a.tmps = (do
      let vs ← fn.results.mapM (resF a.tmps)
      pure (if h : vs.size = 1 then vs[0] else .tuple vs)) := rfl
  rw [e]
  simp only [Array.mapM_eq_mapM_toList, map_eq_pure_bind, bind_assoc, pure_bind, Sem.run_bind, h2, Result.andThen_ok, Sem.run_pure]
  match vs' with
  | [] => rfl
  | [v] => rfl
  | v :: u :: l => rfl

end
end Go.Eng
