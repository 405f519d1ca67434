import Derived.Test.YtedcffkmfopalaaDoorEngK
namespace Go.Eng
open Go

/-- What is neither new nor named as changed is as it was. -/
def Rest (H : Tr VObj) (next : Nat) (out : Out) : Prop := ∀ n, ¬ (next ≤ n ∧ n < out.next) → n ∉ out.dirty → out.H.get n = H.get n

def CallRest (call : Caller) : Prop := ∀ (f : Tgt) (args : List Value) (H : Tr VObj) (next : Nat) (out : Out), call f args H next = some out → Rest H next out

section
variable {P : Program}

theorem Rest.still {H : Tr VObj} {next : Nat} {v : Value} : Rest H next ⟨v, H, next, []⟩ := fun _ _ _ => rfl
theorem Rest.put {H : Tr VObj} {next b : Nat} {v : Value} {x : Option VObj} (hb : b < 1099511627775) : Rest H next ⟨v, Tr.put x wide H b, next, [b]⟩ := fun n _ hn => by
  simp only [List.mem_singleton] at hn
  simp only [Tr.get_put' _ _ _ _ hb, if_neg hn]
theorem Rest.new {H : Tr VObj} {next : Nat} {v : Value} {x : Option VObj} (hb : next < 1099511627775) : Rest H next ⟨v, Tr.put x wide H next, next + 1, []⟩ := fun n hn _ => by
  simp only at hn
  simp only [Tr.get_put' _ _ _ _ hb]
  rw [if_neg (by omega)]

theorem evS_rest {E : Operand → Value} {H : Tr VObj} {next : Nat} {o : Oper} {out : Out} (h : evS P E H next o = some out) : Rest H next out := by
  unfold evS at h
  repeat' split at h
  all_goals first | cases h | skip
  rename_i hc
  exact .put hc.2.2.2.2.2

theorem evApp_rest {E : Operand → Value} {H : Tr VObj} {next : Nat} {t u : TypeId} {s x : Operand} {out : Out} (h : evApp P E H next t u s x = some out) : Rest H next out := by
  unfold evApp at h
  repeat' split at h
  all_goals first | (cases h; done) | skip
  all_goals (simp only [Option.some.injEq] at h; subst h)
  all_goals first
    | exact Rest.still
    | exact Rest.new (by omega)
    | skip
  all_goals
    intro n hn hd
    simp only [List.mem_singleton] at hn hd
    simp only [Tr.get_put' _ _ next _ (show next < 1099511627775 by omega)]
    rw [if_neg (by omega), Tr.get_put' _ _ _ _ (by omega), if_neg hd]

theorem evX_rest {E : Operand → Value} {H : Tr VObj} {next : Nat} {o : Oper} {out : Out} (h : evX P E H next o = some out) : Rest H next out := by
  unfold evX at h
  split at h
  · exact evApp_rest h
  · repeat' split at h
    all_goals first | (cases h; done) | skip
    all_goals (simp only [Option.some.injEq] at h; subst h)
    all_goals first
      | exact Rest.still
      | (rename_i hc; exact Rest.put hc.2.2.1)
  · repeat' split at h
    all_goals first | (cases h; done) | skip
    all_goals (simp only [Option.some.injEq] at h; subst h)
    all_goals first
      | exact Rest.still
      | exact Rest.put (by assumption)
  · repeat' split at h
    all_goals first | (cases h; done) | skip
    all_goals (simp only [Option.some.injEq] at h; subst h)
    all_goals first
      | exact Rest.still
      | exact Rest.put (by assumption)
  · repeat' split at h
    all_goals first | (cases h; done) | skip
    all_goals (simp only [Option.some.injEq] at h; subst h)
    all_goals first
      | exact Rest.still
      | exact Rest.put (by assumption)
  · cases h

theorem xS_rest {cf : Cfg} {k : XK} {args : List Value} {H : Tr VObj} {next : Nat} {out : Out} (h : xS P cf k args H next = some out) : Rest H next out := by
  have hst : ∀ {t : TypeId} {b of : Nat} {x : Value}, storeO P H next t b of x = some out → Rest H next out := by
    intro t b of x h
    unfold storeO at h
    repeat' split at h
    all_goals first | (cases h; done) | skip
    rename_i hc
    simp only [Option.some.injEq] at h; subst h
    exact .put hc.2.2.2.2.2
  unfold xS at h
  repeat' split at h
  all_goals first | (cases h; done) | skip
  exact hst h

theorem OpIs.rest {cf : Cfg} {call : Caller} (hc : CallRest call) {E : Operand → Value} {H : Tr VObj} {next : Nat} {o : Oper} {out : Out} {kd : Kd} (h : OpIs P cf call E H next o out kd) : Rest H next out := by
  cases h with
  | p h => exact .still
  | r h => exact .still
  | l h => exact .still
  | a h hn => exact .new hn
  | s h => exact evS_rest h
  | x h => exact evX_rest h
  | m h => exact .still
  | xq _ h => exact .still
  | xr _ h => exact .still
  | xa _ h hn => exact .new hn
  | xs _ h => exact xS_rest h
  | c h hcall => exact hc _ _ _ _ _ hcall

/-- What a record tells of itself. -/
structure RcOk (P : Program) (call : Caller) (cf : Cfg) (nt : Nat) (ops : Array Oper) (r : Rc) : Prop where
  op : ops[r.i]? = some r.o
  operands : ∀ x ∈ r.o.op.operands, okOperand cf.nb x = true
  dst : ∀ d, r.o.dst = some d → d < nt ∧ d < 1099511627775
  le : r.next ≤ r.out.next
  dirty : ∀ d ∈ r.out.dirty, d < r.next
  rest : Rest r.H r.next r.out
  ran : r.ran = true → wantV nt ops r.T r.o = true ∧ (∀ c, r.o.op ≠ .defer c) ∧ OpIs P cf call (env r.T) r.H r.next r.o r.out r.kd
  not : r.ran = false → wantV nt ops r.T r.o = false ∧ r.out = ⟨undef, r.H, r.next, []⟩ ∧ r.kd = .p
  quiet : (r.kd = .p ∨ ∃ n, r.kd = .r n) → ∀ n, ¬ touch r n
  alloc : r.kd = .a → r.out.dirty = [] ∧ r.out.next = r.next + 1

theorem rcOk {call : Caller} (hc : CallRest call) {cf : Cfg} {nt : Nat} {ops : Array Oper} {r : Rc} (ho : ops[r.i]? = some r.o) (he : evOne P call cf nt ops r.T r.H r.next r.o = some (r.out, r.kd, r.ran)) : RcOk P call cf nt ops r := by
  unfold evOne at he
  split at he
  · rename_i hcond
    rw [Bool.and_eq_true, List.all_eq_true] at hcond
    have hop : ∀ x ∈ r.o.op.operands, okOperand cf.nb x = true := fun x hx => hcond.1 x (by simpa using hx)
    have hdst : ∀ d, r.o.dst = some d → d < nt ∧ d < 1099511627775 := fun d hd => by
      have := hcond.2
      simp only [dstOk, hd, Bool.and_eq_true, Nat.blt_eq] at this
      exact this
    split at he
    · rename_i hw
      split at he
      · rename_i out kd hev
        split at he
        · rename_i hchk
          simp only [Option.some.injEq, Prod.mk.injEq] at he
          obtain ⟨e1, e2, e3⟩ := he
          rw [Bool.and_eq_true, List.all_eq_true] at hchk
          obtain ⟨hd, his⟩ := evOp_is hev
          subst e1 e2
          have hle : r.next ≤ r.out.next := Nat.le_of_ble_eq_true hchk.1
          exact {
            op := ho
            operands := hop
            dst := hdst
            le := hle
            dirty := fun d hdd => by have := hchk.2 d hdd; simpa [Nat.blt_eq] using this
            rest := his.rest hc
            ran := fun _ => ⟨hw, hd, his⟩
            not := fun h => by rw [← e3] at h; cases h
            quiet := fun hk n ht => by
              have : r.out.dirty = [] ∧ r.out.next = r.next := by
                generalize r.out = q at his hk ⊢
                generalize r.kd = kk at his hk
                cases his <;> first | exact ⟨rfl, rfl⟩ | (rcases hk with hk | ⟨m, hk⟩ <;> cases hk)
              rcases ht with ht | ht
              · rw [this.1] at ht; cases ht
              · omega
            alloc := fun hk => by
              generalize r.out = q at his ⊢
              rw [hk] at his
              cases his <;> exact ⟨rfl, rfl⟩ }
        · cases he
      · cases he
    · rename_i hw
      simp only [Option.some.injEq, Prod.mk.injEq] at he
      obtain ⟨e1, e2, e3⟩ := he
      exact {
        op := ho
        operands := hop
        dst := hdst
        le := by rw [← e1]; exact Nat.le_refl _
        dirty := fun d hdd => by rw [← e1] at hdd; cases hdd
        rest := by rw [← e1]; exact .still
        ran := fun h => by rw [← e3] at h; cases h
        not := fun _ => ⟨by simpa using hw, e1.symm, e2.symm⟩
        quiet := fun _ n ht => by
          rcases ht with ht | ht
          · rw [← e1] at ht; cases ht
          · rw [← e1] at ht; simp only at ht; omega
        alloc := fun hk => by rw [← e2] at hk; cases hk }
  · cases he

section
variable {call : Caller} {cf : Cfg} {nt : Nat} {ops : Array Oper}

theorem Run.ok (hc : CallRest call) {T T' : Tr Value} {H H' : Tr VObj} {next next' : Nat} {L : List Rc} (h : Run P call cf nt ops T H next L T' H' next') : ∀ r ∈ L, RcOk P call cf nt ops r := by
  induction h with
  | nil => simp
  | cons hT hH hn ho he _ ih =>
    intro r hr
    cases hr with
    | head => exact rcOk hc ho (by rw [hT, hH, hn]; exact he)
    | tail _ hr => exact ih r hr

theorem Run.le (hc : CallRest call) {T T' : Tr Value} {H H' : Tr VObj} {next next' : Nat} {L : List Rc} (h : Run P call cf nt ops T H next L T' H' next') : next ≤ next' ∧ ∀ r ∈ L, next ≤ r.next ∧ r.out.next ≤ next' := by
  induction h with
  | nil => exact ⟨Nat.le_refl _, by simp⟩
  | cons hT hH hn ho he _ ih =>
    have hk := rcOk hc ho (by rw [hT, hH, hn]; exact he)
    have := hk.le
    refine ⟨by omega, fun r hr => ?_⟩
    cases hr with
    | head => exact ⟨by omega, ih.1⟩
    | tail _ hr => have := ih.2 r hr; exact ⟨by omega, this.2⟩

/-- The blocks behind a run. -/
theorem Run.heap (hc : CallRest call) {T T' : Tr Value} {H H' : Tr VObj} {next next' : Nat} {L : List Rc} (h : Run P call cf nt ops T H next L T' H' next') (n : Nat) :
    H'.get n = HDL (fun _ => true) n L (H.get n) := by
  induction h with
  | nil => rfl
  | cons hT hH hn ho he _ ih =>
    have hk := rcOk hc ho (by rw [hT, hH, hn]; exact he)
    rw [ih]
    simp only [HDL, true_and]
    congr 1
    split
    · rfl
    · rename_i ht
      rw [hk.rest n (fun c => ht ⟨rfl, .inr c⟩) (fun c => ht ⟨rfl, .inl c⟩), hH]

theorem putT_val {T : Tr Value} {dst : Option Nat} {v : Value} {t : Nat} (hd : ∀ d, dst = some d → d < 1099511627775) : (putT T dst v).val t = if dst = some t then v else T.val t := by
  cases dst with
  | none => rfl
  | some d =>
    simp only [putT, Tr.val, Tr.get_put' _ _ _ _ (hd d rfl), Option.some.injEq]
    by_cases e : t = d
    · subst e; simp
    · rw [if_neg e, if_neg (Ne.symm e)]

theorem Run.tmps (hc : CallRest call) {T T' : Tr Value} {H H' : Tr VObj} {next next' : Nat} {L : List Rc} (h : Run P call cf nt ops T H next L T' H' next') (t : Nat) :
    T'.val t = TDL (fun _ => true) t L (T.val t) := by
  induction h with
  | nil => rfl
  | cons hT hH hn ho he _ ih =>
    have hk := rcOk hc ho (by rw [hT, hH, hn]; exact he)
    rw [ih, putT_val fun d hd => (hk.dst d hd).2]
    simp only [TDL, true_and]

theorem Run.tile {T T' : Tr Value} {H H' : Tr VObj} {next next' : Nat} {L : List Rc} (h : Run P call cf nt ops T H next L T' H' next') :
    ∀ n, next ≤ n → n < next' → ∃ r ∈ L, r.next ≤ n ∧ n < r.out.next := by
  induction h with
  | nil => intro n h1 h2; omega
  | cons hT hH hn ho he _ ih =>
    rename_i r L _
    intro n h1 h2
    by_cases hlt : n < r.out.next
    · exact ⟨r, by simp, by omega, hlt⟩
    · obtain ⟨r', hr', h3⟩ := ih n (by omega) h2
      exact ⟨r', by simp [hr'], h3⟩

theorem Run.bound (hc : CallRest call) {T T' : Tr Value} {H H' : Tr VObj} {next next' : Nat} {L : List Rc} (h : Run P call cf nt ops T H next L T' H' next') (hb : ∀ n, (H.get n).isSome → n < next) :
    ∀ n, (H'.get n).isSome → n < next' := by
  induction h with
  | nil => exact hb
  | cons hT hH hn ho he _ ih =>
    have hk := rcOk hc ho (by rw [hT, hH, hn]; exact he)
    refine ih fun n hn' => ?_
    rename_i r L ht
    have hle := hk.le
    by_cases h1 : r.next ≤ n ∧ n < r.out.next
    · exact h1.2
    · by_cases h2 : n ∈ r.out.dirty
      · have := hk.dirty n h2; omega
      · rw [hk.rest n h1 h2, hH] at hn'
        have := hb n hn'
        omega

end
end
end Go.Eng
