import Derived.Test.YtedcffkmfopalaaDoorEngX
namespace Go.Eng
open Go

/-- Who is called: a function, or the round of a loop. -/
inductive Tgt where
  | fn (f : FuncId)
  | round (l : Nat)

abbrev Caller := Tgt → List Value → Tr VObj → Nat → Option Out

abbrev FR (ro : Option Nat) : Fence := { fn := fun _ => True, depth := none, alive := false, round := ro }

section
variable (P : Program)

def plainFn (f : FuncId) : Bool :=
  match P.funcs[f]? with
  | some fn => !(fn.name == "runtime.NumGoroutine") && fn.body.isSome
  | none => false

def evCallee (cf : Cfg) (E : Operand → Value) (o : Oper) : Option (Tgt × List Value) :=
  match o.op with
  | .call c =>
    match c.callee with
    | .value f =>
      match E f with
      | .func (.func g) ⟨first⟩ ⟨cap⟩ => if plainFn P g then some (.fn g, first ++ c.args.toList.map E ++ cap) else none
      | .func (.yield l) ⟨[]⟩ ⟨[]⟩ => some (.round l, c.args.toList.map E)
      | _ => none
    | .invoke _ _ =>
      if operandsFlat cf.nb E o then
        match quiet P (execOp E o) with
        | some (.enter g ⟨args⟩) => if args.all (fixd cf.nb 8) then some (.fn g, args) else none
        | _ => none
      else none
    | _ => none
  | _ => none

inductive Kd where
  | p
  | r (n : Nat)
  | a
  | e

def isDefer : Op → Bool
  | .defer _ => true
  | _ => false

noncomputable def evSlow (cf : Cfg) (call : Caller) (E : Operand → Value) (H : Tr VObj) (next : Nat) (o : Oper) : Option (Out × Kd) :=
  if isDefer o.op then none else
  match xkOf cf E o with
  | some (k, args) =>
    match xQ P cf k args with
    | some v => some (⟨v, H, next, []⟩, .p)
    | none =>
      match xR P cf k args H with
      | some (v, n) => some (⟨v, H, next, []⟩, .r n)
      | none =>
        match xA cf k args next with
        | some (v, ob) => if next < 1099511627775 then some (⟨v, Tr.put (some ob) wide H next, next + 1, []⟩, .a) else none
        | none =>
          match xS P cf k args H next with
          | some out => some (out, .e)
          | none => none
  | none =>
  match memo cf E o with
  | some v => some (⟨v, H, next, []⟩, .p)
  | none =>
  match evP P cf.nb E o with
  | some v => some (⟨v, H, next, []⟩, .p)
  | none =>
    match evR P E H o with
    | some (v, n) => some (⟨v, H, next, []⟩, .r n)
    | none =>
      match evL P E H o with
      | some (v, n) => some (⟨v, H, next, []⟩, .r n)
      | none =>
        match evA P E next o with
        | some (v, ob) => if next < 1099511627775 then some (⟨v, Tr.put (some ob) wide H next, next + 1, []⟩, .a) else none
        | none =>
          match evS P E H next o with
          | some out => some (out, .e)
          | none =>
            match evX P E H next o with
            | some out => some (out, .e)
            | none =>
              match evCallee P cf E o with
              | some (f, args) => (call f args H next).map fun out => (out, .e)
              | none => none

/-- Where an operation's meaning is to be looked for. -/
inductive Cl where
  | st
  | bin
  | ld
  | sto
  | al
  | cv
  | ot

def cls : Op → Cl
  | .move _ | .assign _ | .pick _ _ _ | .extract _ _ | .makeInterface _ _ | .makeFunc _ _ _ | .nilCheck _ | .field _ _ _ | .fieldAddr _ _ _ | .indexAddr _ _ _ => .st
  | .binOp _ _ _ _ _ => .bin
  | .load _ _ => .ld
  | .store _ _ _ => .sto
  | .alloc _ | .box _ _ | .makeSlice _ _ _ | .buildSlice _ _ _ | .makeMap _ _ => .al
  | .call c =>
    match c.callee with
    | .value _ => .cv
    | _ => .ot
  | _ => .ot

noncomputable def evOp (cf : Cfg) (call : Caller) (E : Operand → Value) (H : Tr VObj) (next : Nat) (o : Oper) : Option (Out × Kd) :=
  match cls o.op with
  | .st =>
    match structV P E o.op with
    | some v => some (⟨v, H, next, []⟩, .p)
    | none => evSlow P cf call E H next o
  | .bin =>
    match fastInt P E o.op with
    | some v => if fixd cf.nb 8 v then some (⟨v, H, next, []⟩, .p) else none
    | none => evSlow P cf call E H next o
  | .ld =>
    match evR P E H o with
    | some (v, n) => some (⟨v, H, next, []⟩, .r n)
    | none => evSlow P cf call E H next o
  | .sto =>
    match evS P E H next o with
    | some out => some (out, .e)
    | none => evSlow P cf call E H next o
  | .al =>
    match evA P E next o with
    | some (v, ob) => if next < 1099511627775 then some (⟨v, Tr.put (some ob) wide H next, next + 1, []⟩, .a) else none
    | none => evSlow P cf call E H next o
  | .cv =>
    match xkOf cf E o with
    | some _ => evSlow P cf call E H next o
    | none =>
      match evCallee P cf E o with
      | some (f, args) => (call f args H next).map fun out => (out, .e)
      | none => evSlow P cf call E H next o
  | .ot => evSlow P cf call E H next o

end

/-- What a run of a piece has done. -/
structure Good (ρ : Ren) (H : Tr VObj) (next : Nat) (w : World) (out : Out) (v' : Value) (ρ' : Ren) (w' : World) : Prop where
  val : VR ρ' out.v v'
  post : Post ρ H.get w (fun n => next ≤ n ∧ n < out.next) (· ∈ out.dirty) ρ' out.H.get w'
  rest : ∀ n, ¬ (next ≤ n ∧ n < out.next) → n ∉ out.dirty → out.H.get n = H.get n
  le : next ≤ out.next

def TgtCalls (P : Program) (ρ : Ren) : Tgt → Array Value → World → (Ending → World → Prop) → Prop
  | .fn f, args, w, R => Calls P f args w R
  | .round l, args, w, R => ∃ l' k, ρ l = some (l', k) ∧ ∃ f tmps assign body, (Instr.yield l' args).run P w = .ok (.round l' f tmps assign body) w ∧ ∀ ro, RoundIn (FR ro) 0 P l' f tmps assign body w R

def CallOk (P : Program) (cf : Cfg) (call : Caller) : Prop := XOk P cf ∧
  ∀ (f : Tgt) (args : List Value) (H : Tr VObj) (next : Nat) (out : Out), call f args H next = some out →
    ∀ (ρ : Ren) (w : World) (args' : List Value), Rel ρ H.get w → (∀ n, (H.get n).isSome → n < next) → (∀ g, g < cf.nb → ∃ k, ρ g = some (g, k)) → (∀ n, next ≤ n → n < out.next → ρ n = none) → VRs ρ args args' →
    TgtCalls P ρ f ⟨args'⟩ w fun e w' => ∃ v' ρ', e = .returned v' ∧ Good ρ H next w out v' ρ' w'

section
variable {P : Program} {ρ : Ren}

theorem callsIn_fr {ro : Option Nat} {n : Nat} {f : FuncId} {args : Array Value} {w : World} {R : Ending → World → Prop} (h : Calls P f args w R) : CallsIn (FR ro) n P f args w R :=
  (callsIn_wide (n := n)).2 h

theorem semAt_run {ro : Option Nat} {E : Operand → Value} {o : Oper} {w : World} {r : Result Next} (h : (execOp E o).run P w = r) (hd : ∀ c, o.op ≠ .defer c) : (o.semAt ro E).run P w = r := by
  rw [Oper.semAt_eq ro E o hd]; exact h

/-- An operation that runs to a value. -/
theorem wpIn_value {ro : Option Nat} {o : Oper} {a : Act} {w w' : World} {v : Value} {K : Act → World → Prop} {Q : Exit → Act → World → Prop} (hd : ∀ c, o.op ≠ .defer c)
    (h : (execOp a.eval o).run P w = .ok (.value v) w') (hK : K (a.put o.dst v) w') : o.wpIn (FR ro) 0 P a w K Q := by
  refine ⟨fun _ _ => trivial, ?_⟩
  show o.uponIn (FR ro) 0 P a K Q ((o.semAt ro a.eval).run P w)
  rw [semAt_run h hd]
  exact hK

theorem wpIn_skipped {ro : Option Nat} {o : Oper} {a : Act} {w w' : World} {K : Act → World → Prop} {Q : Exit → Act → World → Prop} (hd : ∀ c, o.op ≠ .defer c)
    (h : (execOp a.eval o).run P w = .ok .skip w') (hK : K (a.put o.dst undef) w') : o.wpIn (FR ro) 0 P a w K Q := by
  refine ⟨fun _ _ => trivial, ?_⟩
  show o.uponIn (FR ro) 0 P a K Q ((o.semAt ro a.eval).run P w)
  rw [semAt_run h hd]
  exact hK

theorem evCallee_ok {cf : Cfg} {call : Caller} (hc : CallOk P cf call) {ro : Option Nat} {o : Oper} {E : Operand → Value} {a : Act} {H : Tr VObj} {next : Nat} {f : Tgt} {args : List Value} {out : Out} {w : World}
    (h : evCallee P cf E o = some (f, args)) (ho : call f args H next = some out) (hE : ∀ x ∈ o.op.operands, VR ρ (E x) (a.eval x)) (R : Rel ρ H.get w) (hb : ∀ n, (H.get n).isSome → n < next) (hg : ∀ g, g < cf.nb → ∃ k, ρ g = some (g, k)) (hfree : ∀ n, next ≤ n → n < out.next → ρ n = none)
    {K : Act → World → Prop} {Q : Exit → Act → World → Prop} (hK : ∀ v' w' ρ', Good ρ H next w out v' ρ' w' → K (a.put o.dst v') w') : o.wpIn (FR ro) 0 P a w K Q := by
  obtain ⟨dst, op, ty, pos, after, guard⟩ := o
  have fin : ∀ g args', f = .fn g → VRs ρ args args' → (execOp a.eval ⟨dst, op, ty, pos, after, guard⟩).run P w = .ok (.enter g ⟨args'⟩) w → (∀ c, op ≠ .defer c) →
      (⟨dst, op, ty, pos, after, guard⟩ : Oper).wpIn (FR ro) 0 P a w K Q := by
    intro g args' hf hv hrun hd
    subst hf
    refine ⟨fun _ _ => trivial, ?_⟩
    show Oper.uponIn (FR ro) 0 P _ a K Q ((Oper.semAt ro a.eval _).run P w)
    rw [semAt_run hrun (by simpa using hd)]
    refine ⟨fun h => by simp at h, callsIn_fr ?_⟩
    refine Calls.mono (hc.2 _ _ _ _ _ ho ρ w args' R hb hg hfree hv) fun e w' he => ?_
    obtain ⟨v', ρ', rfl, hg⟩ := he
    exact hK v' w' ρ' hg
  unfold evCallee at h
  cases op with
  | call c =>
    obtain ⟨callee, cargs, ats⟩ := c
    simp only at h
    cases callee with
    | value x =>
      have hx := hE x (by simp [Op.operands, Call.operands])
      have hargs : VRs ρ (cargs.toList.map E) (cargs.toList.map a.eval) := VRs.mapV _ fun y hy => hE y (by simp [Op.operands, Call.operands]; exact .inr (by simpa using hy))
      simp only at h
      split at h
      · rename_i g first cap hv
        rw [hv] at hx
        split at h
        · rename_i hp
          simp only [Option.some.injEq, Prod.mk.injEq] at h
          obtain ⟨rfl, rfl⟩ := h
          obtain ⟨first', cap', h1, h2, he⟩ := hx.func_inv
          refine fin g _ rfl ((h1.append hargs).append h2) ?_ (by simp)
          unfold plainFn at hp
          cases hfn : P.funcs[g]? with
          | none => simp [hfn] at hp
          | some fn =>
            simp only [hfn, Bool.and_eq_true, Bool.not_eq_true', beq_eq_false_iff_ne] at hp
            obtain ⟨hne, hbody⟩ := hp
            have hnb : fn.body ≠ none := by intro hbd; simp [hbd] at hbody
            have e : ((⟨first'⟩ : Array Value) ++ (cargs.map a.eval ++ ⟨cap'⟩)) = ⟨first' ++ (cargs.toList.map a.eval ++ cap')⟩ := by rw [← Array.toList_inj]; simp
            simp [execOp, resolve, he, Deferred.ofValue, invoke, callFunc, hfn, hne, hnb, e]
        · cases h
      · rename_i l hv
        rw [hv] at hx
        simp only [Option.some.injEq, Prod.mk.injEq] at h
        obtain ⟨rfl, rfl⟩ := h
        have hy : ∃ l' k, ρ l = some (l', k) ∧ a.eval x = .func (.yield l') #[] #[] := by
          generalize a.eval x = z at hx
          cases hx with
          | atom h => simp [Eng.atom] at h
          | func hf _ _ => simp [notYield] at hf
          | yield h => exact ⟨_, _, h, rfl⟩
        obtain ⟨l', k, hl, he⟩ := hy
        obtain ⟨l'', k', hl', fn, tmps, assign, body, hyr, hround⟩ := hc.2 _ _ _ _ _ ho ρ w _ R hb hg hfree hargs
        rw [hl] at hl'; injection hl' with hl'; injection hl' with hl' _; subst hl'
        refine ⟨fun _ _ => trivial, ?_⟩
        show Oper.uponIn (FR ro) 0 P _ a K Q ((Oper.semAt ro a.eval _).run P w)
        have hrun : (execOp a.eval ⟨dst, .call ⟨.value x, cargs, ats⟩, ty, pos, after, guard⟩).run P w = .ok (.round l' fn tmps assign body) w := by
          have e : (⟨cargs.toList.map a.eval⟩ : Array Value) = cargs.map a.eval := by rw [← Array.toList_inj]; simp
          rw [e] at hyr
          simp [execOp, resolve, he, Deferred.ofValue, invoke, hyr]
        rw [semAt_run hrun (by simp)]
        refine ⟨fun h => by simp at h, (hround ro).mono fun e w' he => ?_⟩
        obtain ⟨v', ρ', rfl, hg⟩ := he
        exact hK v' w' ρ' hg
      · cases h
    | invoke r m =>
      simp only at h
      split at h
      · rename_i hf
        split at h
        · rename_i g args0 hq
          split at h
          · rename_i hall
            simp only [Option.some.injEq, Prod.mk.injEq] at h
            obtain ⟨rfl, rfl⟩ := h
            have hcg : execOp a.eval ⟨dst, .call ⟨.invoke r m, cargs, ats⟩, ty, pos, after, guard⟩ = execOp E ⟨dst, .call ⟨.invoke r m, cargs, ats⟩, ty, pos, after, guard⟩ :=
              execOp_congr _ (fun cs b he => by simp at he) fun x hx => by
                refine VR.eq_of_fixd hg 8 _ _ ?_ (hE x hx)
                have h0 := hf
                unfold operandsFlat at h0
                rw [List.all_eq_true] at h0
                exact h0 x (by simpa using hx)
            refine fin g args0 rfl (VRs.refl_of (VR.of_fixd hg 8) hall) ?_ (by simp)
            rw [hcg]; exact quiet_run hq w
          · cases h
        · cases h
      · cases h
    | builtin b => simp at h
  | _ => simp at h

end
end Go.Eng
