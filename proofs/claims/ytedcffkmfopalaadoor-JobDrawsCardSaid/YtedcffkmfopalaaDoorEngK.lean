import Derived.Test.YtedcffkmfopalaaDoorEngJ
namespace Go.Eng
open Go

/-- One operation of a region, as it was run: what was there, what it came to, which ones it waits for, what it looks at. -/
structure Rc where
  i : Nat
  anc : List Nat
  o : Oper
  T : Tr Value
  H : Tr VObj
  next : Nat
  out : Out
  kd : Kd
  ran : Bool

section
variable (P : Program)

def tmpsOf (ops : Array Oper) (o : Oper) : List Tmp := o.looksAt ops

def tmpApart (ops : Array Oper) (r : Rc) (o : Oper) : Bool :=
  (match r.o.dst with
   | some d => !(tmpsOf ops o).contains d && !(o.dst == some d)
   | none => true) &&
  (match o.dst with
   | some d => !(tmpsOf ops r.o).contains d
   | none => true)

def heapApart (r : Rc) (out : Out) (kd : Kd) : Bool :=
  match r.kd, kd with
  | .p, _ => true
  | _, .p => true
  | .r _, .r _ => true
  | .r _, .a => true
  | .a, .r n => !(Nat.beq n r.next)
  | .a, .a => true
  | .r n, .e => !out.dirty.contains n
  | .e, .r n => !r.out.dirty.contains n && !(Nat.ble r.next n && Nat.blt n r.out.next)
  | .e, .a => true
  | .a, .e => false
  | .e, .e => false

def ancOf (acc : List Rc) (j : Nat) : List Nat :=
  match acc.find? (fun r => Nat.beq r.i j) with
  | some r => r.anc
  | none => []

/-- Each once (whatever stands in it stood in the list). -/
def nubGo : List Nat → Nat → List Nat
  | [], _ => []
  | x :: l, m => if Nat.testBit m x then nubGo l m else x :: nubGo l (Nat.lor m (Nat.shiftLeft 1 x))
theorem mem_nubGo {x : Nat} : ∀ {l : List Nat} {m : Nat}, x ∈ nubGo l m → x ∈ l
  | [], _, h => by simp [nubGo] at h
  | y :: l, m, h => by
    unfold nubGo at h
    split at h
    · exact List.mem_cons_of_mem _ (mem_nubGo h)
    · rcases List.mem_cons.1 h with rfl | h
      · exact List.mem_cons_self
      · exact List.mem_cons_of_mem _ (mem_nubGo h)

def ancsOf (acc : List Rc) (o : Oper) : List Nat := nubGo (o.after.toList.flatMap fun e => if Region.binds .any e then e.on :: ancOf acc e.on else []) 0

noncomputable def yieldV (nt : Nat) (ops : Array Oper) (T : Tr Value) (j : Nat) : Option Bool :=
  match (ops[j]?).bind (·.dst) with
  | some d =>
    if d < nt then
      match T.val d with
      | .bool b => some b
      | _ => none
    else none
  | none => none

noncomputable def wantV (nt : Nat) (ops : Array Oper) (T : Tr Value) (o : Oper) : Bool :=
  match o.guard with
  | none => true
  | some (j, want) => yieldV nt ops T j == some want

noncomputable def putT (T : Tr Value) (dst : Option Nat) (v : Value) : Tr Value :=
  match dst with
  | some d => Tr.put (some v) wide T d
  | none => T

def dstOk (nt : Nat) (dst : Option Nat) : Bool :=
  match dst with
  | some d => Nat.blt d nt && Nat.blt d 1099511627775
  | none => true

/-- One operation, whether it is wanted or not. -/
noncomputable def evOne (call : Caller) (cf : Cfg) (nt : Nat) (ops : Array Oper) (T : Tr Value) (H : Tr VObj) (next : Nat) (o : Oper) : Option (Out × Kd × Bool) :=
  if o.op.operands.toList.all (okOperand cf.nb) && dstOk nt o.dst then
    if wantV nt ops T o then
      match evOp P cf call (env T) H next o with
      | some (out, kd) => if Nat.ble next out.next && out.dirty.all (fun d => Nat.blt d next) then some (out, kd, true) else none
      | none => none
    else some (⟨undef, H, next, []⟩, .p, false)
  else none

noncomputable def evDraw (call : Caller) (cf : Cfg) (nt : Nat) (ops : Array Oper) : List Nat → Tr Value → Tr VObj → Nat → List Rc → Option (Tr Value × Tr VObj × Nat × List Rc)
  | [], T, H, next, acc => some (T, H, next, acc)
  | i :: rest, T, H, next, acc =>
    match ops[i]? with
    | none => none
    | some o =>
      match evOne P call cf nt ops T H next o with
      | none => none
      | some (out, kd, ran) =>
        if (acc.all fun r => (ancsOf acc o).contains r.i || (tmpApart ops r o && heapApart r out kd)) && (o.after.toList.all fun e => !(Region.binds .any e) || acc.any fun r => Nat.beq r.i e.on) then
          evDraw call cf nt ops rest (putT T o.dst out.v) out.H out.next (⟨i, ancsOf acc o, o, T, H, next, out, kd, ran⟩ :: acc)
        else none

/-- An order in which new blocks come as late as they may. -/
def lateGo (ops : Array Oper) : Nat → List Nat → List Nat → List Nat
  | 0, _, acc => acc.reverse
  | f + 1, todo, acc =>
    let rdy := todo.filter fun i => (ops.getD i default).after.toList.all fun e => !(Region.binds .any e) || acc.contains e.on
    let isA (i : Nat) : Bool := match (ops.getD i default).op with | .alloc _ | .box _ _ | .buildSlice _ _ _ | .makeSlice _ _ _ | .makeMap _ _ => true | _ => false
    match rdy.find? (fun i => !isA i) with
    | some i => lateGo ops f (todo.filter fun j => !(Nat.beq j i)) (i :: acc)
    | none =>
      match rdy with
      | i :: _ => lateGo ops f (todo.filter fun j => !(Nat.beq j i)) (i :: acc)
      | [] => acc.reverse

def late (ops : Array Oper) : List Nat := lateGo ops ops.size (List.range ops.size) []

end

/-! ### What was done, for those that have come up -/
def touch (r : Rc) (n : Nat) : Prop := n ∈ r.out.dirty ∨ (r.next ≤ n ∧ n < r.out.next)

open Classical in
noncomputable def HDL (D : Nat → Bool) (n : Nat) : List Rc → Option VObj → Option VObj
  | [], b => b
  | r :: L, b => HDL D n L (if D r.i = true ∧ touch r n then r.out.H.get n else b)

noncomputable def TDL (D : Nat → Bool) (t : Nat) : List Rc → Value → Value
  | [], b => b
  | r :: L, b => TDL D t L (if D r.i = true ∧ r.o.dst = some t then r.out.v else b)

theorem HDL_append (D : Nat → Bool) (n : Nat) : ∀ (L M : List Rc) (b : Option VObj), HDL D n (L ++ M) b = HDL D n M (HDL D n L b)
  | [], _, _ => rfl
  | r :: L, M, b => by simp only [List.cons_append, HDL]; exact HDL_append D n L M _

theorem TDL_append (D : Nat → Bool) (t : Nat) : ∀ (L M : List Rc) (b : Value), TDL D t (L ++ M) b = TDL D t M (TDL D t L b)
  | [], _, _ => rfl
  | r :: L, M, b => by simp only [List.cons_append, TDL]; exact TDL_append D t L M _

theorem HDL_none {D : Nat → Bool} {n : Nat} : ∀ {L : List Rc} {b : Option VObj}, (∀ r ∈ L, D r.i = true → ¬ touch r n) → HDL D n L b = b
  | [], _, _ => rfl
  | r :: L, b, h => by
    simp only [HDL]
    rw [if_neg (fun hc => h r (by simp) hc.1 hc.2)]
    exact HDL_none fun r' hr' => h r' (by simp [hr'])

theorem TDL_none {D : Nat → Bool} {t : Nat} : ∀ {L : List Rc} {b : Value}, (∀ r ∈ L, D r.i = true → r.o.dst ≠ some t) → TDL D t L b = b
  | [], _, _ => rfl
  | r :: L, b, h => by
    simp only [TDL]
    rw [if_neg (fun hc => h r (by simp) hc.1 hc.2)]
    exact TDL_none fun r' hr' => h r' (by simp [hr'])

theorem HDL_congr {D D' : Nat → Bool} {n : Nat} : ∀ {L : List Rc} {b : Option VObj}, (∀ r ∈ L, touch r n → D r.i = D' r.i) → HDL D n L b = HDL D' n L b
  | [], _, _ => rfl
  | r :: L, b, h => by
    simp only [HDL]
    rw [HDL_congr (L := L) fun r' hr' => h r' (by simp [hr'])]
    congr 1
    by_cases hd : D r.i = true ∧ touch r n
    · rw [if_pos hd, if_pos ⟨h r (by simp) hd.2 ▸ hd.1, hd.2⟩]
    · have hd' : ¬ (D' r.i = true ∧ touch r n) := fun hc => hd ⟨(h r (by simp) hc.2).trans hc.1, hc.2⟩
      rw [if_neg hd, if_neg hd']

theorem TDL_congr {D D' : Nat → Bool} {t : Nat} : ∀ {L : List Rc} {b : Value}, (∀ r ∈ L, r.o.dst = some t → D r.i = D' r.i) → TDL D t L b = TDL D' t L b
  | [], _, _ => rfl
  | r :: L, b, h => by
    simp only [TDL]
    rw [TDL_congr (L := L) fun r' hr' => h r' (by simp [hr'])]
    congr 1
    by_cases hd : D r.i = true ∧ r.o.dst = some t
    · rw [if_pos hd, if_pos ⟨h r (by simp) hd.2 ▸ hd.1, hd.2⟩]
    · have hd' : ¬ (D' r.i = true ∧ r.o.dst = some t) := fun hc => hd ⟨(h r (by simp) hc.2).trans hc.1, hc.2⟩
      rw [if_neg hd, if_neg hd']

/-- The run of a region, one operation behind the other. -/
inductive Run (P : Program) (call : Caller) (cf : Cfg) (nt : Nat) (ops : Array Oper) : Tr Value → Tr VObj → Nat → List Rc → Tr Value → Tr VObj → Nat → Prop
  | nil {T : Tr Value} {H : Tr VObj} {next : Nat} : Run P call cf nt ops T H next [] T H next
  | cons {T T' : Tr Value} {H H' : Tr VObj} {next next' : Nat} {r : Rc} {L : List Rc} (hT : r.T = T) (hH : r.H = H) (hn : r.next = next) (ho : ops[r.i]? = some r.o)
      (he : evOne P call cf nt ops T H next r.o = some (r.out, r.kd, r.ran)) (t : Run P call cf nt ops (putT T r.o.dst r.out.v) r.out.H r.out.next L T' H' next') :
      Run P call cf nt ops T H next (r :: L) T' H' next'

theorem Run.snoc {P : Program} {call : Caller} {cf : Cfg} {nt : Nat} {ops : Array Oper} {T T' : Tr Value} {H H' : Tr VObj} {next next' : Nat} {L : List Rc} (h : Run P call cf nt ops T H next L T' H' next')
    {r : Rc} (hT : r.T = T') (hH : r.H = H') (hn : r.next = next') (ho : ops[r.i]? = some r.o) (he : evOne P call cf nt ops T' H' next' r.o = some (r.out, r.kd, r.ran)) :
    Run P call cf nt ops T H next (L ++ [r]) (putT T' r.o.dst r.out.v) r.out.H r.out.next := by
  induction h with
  | nil => exact .cons hT hH hn ho he .nil
  | cons a b c d e _ ih => exact .cons a b c d e (ih hT hH hn he)

theorem Run.split {P : Program} {call : Caller} {cf : Cfg} {nt : Nat} {ops : Array Oper} {T T' : Tr Value} {H H' : Tr VObj} {next next' : Nat} {L M : List Rc} (h : Run P call cf nt ops T H next (L ++ M) T' H' next') :
    ∃ T₁ H₁ next₁, Run P call cf nt ops T H next L T₁ H₁ next₁ ∧ Run P call cf nt ops T₁ H₁ next₁ M T' H' next' := by
  induction L generalizing T H next with
  | nil => exact ⟨T, H, next, .nil, h⟩
  | cons r L ih =>
    cases h with
    | cons a b c d e t =>
      obtain ⟨T₁, H₁, n₁, h1, h2⟩ := ih t
      exact ⟨T₁, H₁, n₁, .cons a b c d e h1, h2⟩

def Closed (ops : Array Oper) (D : Nat → Bool) : Prop := ∀ i o, ops[i]? = some o → D i = true → ∀ e ∈ o.after, Region.binds .any e = true → D e.on = true

def AncIn (ops : Array Oper) (r : Rc) : Prop := ∀ D : Nat → Bool, Closed ops D → (∀ e ∈ r.o.after, Region.binds .any e = true → D e.on = true) → ∀ j ∈ r.anc, D j = true

def Topo (L : List Rc) : Prop := ∀ L₁ r L₂, L = L₁ ++ r :: L₂ → ∀ e ∈ r.o.after, Region.binds .any e = true → ∃ q ∈ L₁, q.i = e.on

theorem Topo.snoc {L : List Rc} (h : Topo L) {r : Rc} (hr : ∀ e ∈ r.o.after, Region.binds .any e = true → ∃ q ∈ L, q.i = e.on) : Topo (L ++ [r]) := by
  intro L₁ q L₂ he e hem hb
  rcases List.eq_nil_or_concat L₂ with rfl | ⟨M, x, rfl⟩
  · obtain ⟨h1, h2⟩ := List.append_inj' he rfl
    injection h2 with h2
    subst h1 h2
    exact hr e hem hb
  · have : L ++ [r] = (L₁ ++ q :: M) ++ [x] := by rw [he]; simp
    obtain ⟨h1, -⟩ := List.append_inj' this rfl
    exact h L₁ q M h1 e hem hb

def Apart (ops : Array Oper) (r r' : Rc) : Prop := r.i ∈ r'.anc ∨ (tmpApart ops r r'.o = true ∧ heapApart r r'.out r'.kd = true)

theorem evDraw_run {P : Program} {call : Caller} {cf : Cfg} {nt : Nat} {ops : Array Oper} : ∀ (π : List Nat) (T : Tr Value) (H : Tr VObj) (next : Nat) (acc : List Rc) (T' : Tr Value) (H' : Tr VObj) (next' : Nat) (acc' : List Rc),
    evDraw P call cf nt ops π T H next acc = some (T', H', next', acc') →
    ∀ (T₀ : Tr Value) (H₀ : Tr VObj) (n₀ : Nat), Run P call cf nt ops T₀ H₀ n₀ acc.reverse T H next → acc.reverse.Pairwise (Apart ops) → (∀ r ∈ acc, AncIn ops r) → Topo acc.reverse →
    Run P call cf nt ops T₀ H₀ n₀ acc'.reverse T' H' next' ∧ acc'.reverse.Pairwise (Apart ops) ∧ (∀ r ∈ acc', AncIn ops r) ∧ Topo acc'.reverse ∧ acc'.reverse.map (·.i) = acc.reverse.map (·.i) ++ π := by
  intro π
  induction π with
  | nil =>
    intro T H next acc T' H' next' acc' h T₀ H₀ n₀ hr hp ha hto
    simp only [evDraw, Option.some.injEq, Prod.mk.injEq] at h
    obtain ⟨rfl, rfl, rfl, rfl⟩ := h
    exact ⟨hr, hp, ha, hto, by simp⟩
  | cons i π ih =>
    intro T H next acc T' H' next' acc' h T₀ H₀ n₀ hr hp ha hto
    simp only [evDraw] at h
    cases ho : ops[i]? with
    | none => simp [ho] at h
    | some o =>
      simp only [ho] at h
      cases he : evOne P call cf nt ops T H next o with
      | none => simp [he] at h
      | some q =>
        obtain ⟨out, kd, ran⟩ := q
        simp only [he] at h
        split at h
        · rename_i hall'
          rw [Bool.and_eq_true] at hall'
          obtain ⟨hall, htop⟩ := hall'
          have hanc : AncIn ops ⟨i, ancsOf acc o, o, T, H, next, out, kd, ran⟩ := by
            intro D hD hdir j hj
            simp only [ancsOf] at hj
            replace hj := mem_nubGo hj
            rw [List.mem_flatMap] at hj
            obtain ⟨e, he', hj⟩ := hj
            split at hj
            · rename_i hb
              have hon := hdir e (by simpa using he') hb
              cases hj with
              | head => exact hon
              | tail _ hj =>
                unfold ancOf at hj
                split at hj
                · rename_i r hfind
                  have hmem := List.mem_of_find?_eq_some hfind
                  have heq : r.i = e.on := Nat.eq_of_beq_eq_true (List.find?_some (p := fun r : Rc => Nat.beq r.i e.on) hfind)
                  have hoR : ops[r.i]? = some r.o := by
                    have : ∀ {T H next L T' H' next'}, Run P call cf nt ops T H next L T' H' next' → ∀ r ∈ L, ops[r.i]? = some r.o := by
                      intro T H next L T' H' next' h
                      induction h with
                      | nil => simp
                      | cons _ _ _ hh _ _ ih2 => intro r hr; cases hr with | head => exact hh | tail _ hr => exact ih2 r hr
                    exact this hr r (by simpa using hmem)
                  exact ha r hmem D hD (hD r.i r.o hoR (by rw [heq]; exact hon)) j hj
                · cases hj
            · cases hj
          obtain ⟨h1, h2, h3, h5, h4⟩ := ih _ _ _ _ T' H' next' acc' h T₀ H₀ n₀
            (by rw [List.reverse_cons]; exact hr.snoc rfl rfl rfl ho he)
            (by
              rw [List.reverse_cons, List.pairwise_append]
              refine ⟨hp, by simp, fun r hr' r' hr'' => ?_⟩
              simp only [List.mem_singleton] at hr''
              subst hr''
              rw [List.all_eq_true] at hall
              have := hall r (by simpa using hr')
              simp only [Bool.or_eq_true, Bool.and_eq_true] at this
              rcases this with hc | hc
              · exact .inl (by simpa using hc)
              · exact .inr hc)
            (fun r hr' => by cases hr' with | head => exact hanc | tail _ hr' => exact ha r hr')
            (by
              rw [List.reverse_cons]
              refine hto.snoc fun e hem hb => ?_
              rw [List.all_eq_true] at htop
              have := htop e (by simpa using hem)
              rw [hb] at this
              simp only [Bool.not_true, Bool.false_or, List.any_eq_true] at this
              obtain ⟨q, hq, hqe⟩ := this
              exact ⟨q, by simpa using hq, Nat.eq_of_beq_eq_true hqe⟩)
          exact ⟨h1, h2, h3, h5, by rw [h4]; simp⟩
        · cases h

/-! ### The same, what is the same each time reckoned apart -/
structure Sc where
  i : Nat
  anc : List Nat
  o : Oper

def ancOfS (acc : List Sc) (j : Nat) : List Nat :=
  match acc.find? (fun r => Nat.beq r.i j) with
  | some r => r.anc
  | none => []

def ancsOfS (acc : List Sc) (o : Oper) : List Nat := nubGo (o.after.toList.flatMap fun e => if Region.binds .any e then e.on :: ancOfS acc e.on else []) 0

def tmpApartS (ops : Array Oper) (ro o : Oper) : Bool :=
  (match ro.dst with
   | some d => !(tmpsOf ops o).contains d && !(o.dst == some d)
   | none => true) &&
  (match o.dst with
   | some d => !(tmpsOf ops ro).contains d
   | none => true)

/-- The operations in their order, with those that each waits for: all apart. -/
def stat (ops : Array Oper) : List Nat → List Sc → Option (List Sc)
  | [], _ => some []
  | i :: rest, acc =>
    match ops[i]? with
    | none => none
    | some o =>
      if (acc.all fun r => (ancsOfS acc o).contains r.i || tmpApartS ops r.o o) && (o.after.toList.all fun e => !(Region.binds .any e) || acc.any fun r => Nat.beq r.i e.on) then
        (stat ops rest (⟨i, ancsOfS acc o, o⟩ :: acc)).map (⟨i, ancsOfS acc o, o⟩ :: ·)
      else none

def Kd.isP : Kd → Bool
  | .p => true
  | _ => false

noncomputable def evFast (P : Program) (call : Caller) (cf : Cfg) (nt : Nat) (ops : Array Oper) : List Sc → Tr Value → Tr VObj → Nat → List Rc → List Nat → Option (Tr Value × Tr VObj × Nat × List Nat)
  | [], T, H, next, _, dirty => some (T, H, next, dirty)
  | s :: rest, T, H, next, hot, dirty =>
    match evOne P call cf nt ops T H next s.o with
    | none => none
    | some (out, kd, ran) =>
      match kd.isP with
      | true => evFast P call cf nt ops rest (putT T s.o.dst out.v) out.H out.next hot (out.dirty ++ dirty)
      | false =>
        if hot.all fun r => s.anc.contains r.i || heapApart r out kd then
          evFast P call cf nt ops rest (putT T s.o.dst out.v) out.H out.next (⟨s.i, s.anc, s.o, T, H, next, out, kd, ran⟩ :: hot) (out.dirty ++ dirty)
        else none

def Rc.sc (r : Rc) : Sc := ⟨r.i, r.anc, r.o⟩

theorem ancsOf_sc (acc : List Rc) (o : Oper) : ancsOfS (acc.map Rc.sc) o = ancsOf acc o := by
  have h : ∀ j, ancOfS (acc.map Rc.sc) j = ancOf acc j := by
    intro j
    unfold ancOfS ancOf
    rw [List.find?_map]
    have e : ((fun r : Sc => Nat.beq r.i j) ∘ Rc.sc) = fun r : Rc => Nat.beq r.i j := rfl
    rw [e]
    cases acc.find? (fun r => Nat.beq r.i j) <;> rfl
  simp only [ancsOfS, ancsOf, h]

theorem heapApart_p1 {r : Rc} {out : Out} {kd : Kd} (h : r.kd.isP = true) : heapApart r out kd = true := by
  unfold heapApart
  cases hk : r.kd <;> simp [hk, Kd.isP] at h <;> cases kd <;> rfl

theorem heapApart_p2 {r : Rc} {out : Out} {kd : Kd} (h : kd.isP = true) : heapApart r out kd = true := by
  unfold heapApart
  cases kd <;> simp [Kd.isP] at h
  cases r.kd <;> rfl

theorem evFast_draw {P : Program} {call : Caller} {cf : Cfg} {nt : Nat} {ops : Array Oper} : ∀ (π : List Nat) (L : List Sc) (acc hot : List Rc) (T : Tr Value) (H : Tr VObj) (next : Nat) (T' : Tr Value) (H' : Tr VObj) (next' : Nat) (dirty' : List Nat),
    stat ops π (acc.map Rc.sc) = some L → (∀ r ∈ acc, r ∈ hot ∨ r.kd.isP = true) → evFast P call cf nt ops L T H next hot (acc.flatMap fun r => r.out.dirty) = some (T', H', next', dirty') →
    ∃ acc', evDraw P call cf nt ops π T H next acc = some (T', H', next', acc') ∧ dirty' = acc'.flatMap fun r => r.out.dirty := by
  intro π
  induction π with
  | nil =>
    intro L acc hot T H next T' H' next' dirty' hs hh hf
    simp only [stat, Option.some.injEq] at hs; subst hs
    simp only [evFast, Option.some.injEq, Prod.mk.injEq] at hf
    obtain ⟨rfl, rfl, rfl, rfl⟩ := hf
    exact ⟨acc, rfl, rfl⟩
  | cons i π ih =>
    intro L acc hot T H next T' H' next' dirty' hs hh hf
    simp only [stat] at hs
    cases ho : ops[i]? with
    | none => simp [ho] at hs
    | some o =>
      simp only [ho] at hs
      split at hs
      · rename_i hc
        rw [Bool.and_eq_true] at hc
        obtain ⟨hap, htop⟩ := hc
        rw [List.all_map, List.all_eq_true] at hap
        obtain ⟨L', hL', rfl⟩ := Option.map_eq_some_iff.1 hs
        simp only [evFast, ancsOf_sc] at hf
        cases he : evOne P call cf nt ops T H next o with
        | none => simp [he] at hf
        | some q =>
          obtain ⟨out, kd, ran⟩ := q
          simp only [he] at hf
          have hany : ∀ e : Edge, ((acc.map Rc.sc).any fun r => Nat.beq r.i e.on) = acc.any fun r => Nat.beq r.i e.on := fun e => by rw [List.any_map]; rfl
          have cond : (∀ r ∈ acc, (ancsOf acc o).contains r.i = true ∨ heapApart r out kd = true) →
              ((acc.all fun r => (ancsOf acc o).contains r.i || (tmpApart ops r o && heapApart r out kd)) && (o.after.toList.all fun e => !(Region.binds .any e) || acc.any fun r => Nat.beq r.i e.on)) = true := by
            intro hd
            rw [Bool.and_eq_true]
            refine ⟨?_, ?_⟩
            · rw [List.all_eq_true]
              intro r hr
              have h1 := hap r hr
              have h2 := hd r hr
              simp only [Function.comp, ancsOf_sc, Bool.or_eq_true] at h1
              simp only [Bool.or_eq_true, Bool.and_eq_true]
              rcases h1 with h1 | h1
              · exact .inl h1
              · rcases h2 with h2 | h2
                · exact .inl h2
                · exact .inr ⟨h1, h2⟩
            · simpa only [hany] using htop
          have step : ∀ hot', (∀ r ∈ acc, (ancsOf acc o).contains r.i = true ∨ heapApart r out kd = true) → (∀ r ∈ (⟨i, ancsOf acc o, o, T, H, next, out, kd, ran⟩ : Rc) :: acc, r ∈ hot' ∨ r.kd.isP = true) →
              evFast P call cf nt ops L' (putT T o.dst out.v) out.H out.next hot' (out.dirty ++ acc.flatMap fun r => r.out.dirty) = some (T', H', next', dirty') →
              ∃ acc', evDraw P call cf nt ops (i :: π) T H next acc = some (T', H', next', acc') ∧ dirty' = acc'.flatMap fun r => r.out.dirty := by
            intro hot' hd hh' hf'
            obtain ⟨acc', e1, e2⟩ := ih L' (⟨i, ancsOf acc o, o, T, H, next, out, kd, ran⟩ :: acc) hot' _ _ _ T' H' next' dirty' (by simpa only [List.map_cons, Rc.sc, ancsOf_sc] using hL') hh' (by simpa only [List.flatMap_cons] using hf')
            refine ⟨acc', ?_, e2⟩
            simp only [evDraw, ho, he]
            rw [if_pos (cond hd)]
            exact e1
          split at hf
          · rename_i hp
            refine step hot (fun r _ => .inr (heapApart_p2 hp)) (fun r hr => ?_) hf
            cases hr with
            | head => exact .inr hp
            | tail _ hr => exact hh r hr
          · split at hf
            · rename_i hall
              rw [List.all_eq_true] at hall
              refine step _ (fun r hr => ?_) (fun r hr => ?_) hf
              · rcases hh r hr with h | h
                · have := hall r h
                  simpa only [Bool.or_eq_true] using this
                · exact .inr (heapApart_p1 h)
              · cases hr with
                | head => exact .inl (by simp)
                | tail _ hr =>
                  rcases hh r hr with h | h
                  · exact .inl (List.mem_cons_of_mem _ h)
                  · exact .inr h
            · cases hf
      · cases hs

end Go.Eng
