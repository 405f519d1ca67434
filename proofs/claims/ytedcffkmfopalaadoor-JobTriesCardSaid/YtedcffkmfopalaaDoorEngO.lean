import Derived.Test.YtedcffkmfopalaaDoorEngN
namespace Go.Eng
open Go

section
variable (P : Program)

def addDirty (n0 : Nat) (new old : List Nat) : List Nat := new.foldl (fun acc d => if Nat.blt d n0 && !acc.contains d then d :: acc else acc) old

noncomputable def addOut (n0 : Nat) (st : St) (T : Tr Value) (out : Out) : St := ⟨T, st.df, out.H, out.next, addDirty n0 out.dirty st.dirty⟩

/-- A deferred call is laid by. -/
noncomputable def evDefer (cf : Cfg) (T : Tr Value) (o : Oper) : Option Df :=
  match o.op with
  | .defer c =>
    match c.callee with
    | .value f =>
      if o.op.operands.toList.all (okOperand cf.nb) && o.guard.isNone && o.dst.isNone then
        match env T f with
        | .func (.func g) ⟨first⟩ ⟨cap⟩ => some (.fn g (first ++ c.args.toList.map (env T)) cap)
        | _ => none
      else none
    | _ => none
  | _ => none

noncomputable def evSeq (call : Caller) (cf : Cfg) (nt n0 : Nat) (ro : Option Nat) (ops : Array Oper) : List Nat → St → Option St
  | [], st => some st
  | i :: rest, st =>
    match ops[i]? with
    | none => none
    | some o =>
      match evOne P call cf nt ops st.T st.H st.next o with
      | some (out, _, _) => evSeq call cf nt n0 ro ops rest (addOut n0 st (putT st.T o.dst out.v) out)
      | none =>
        match ro, evDefer cf st.T o with
        | none, some d => evSeq call cf nt n0 ro ops rest { st with df := d :: st.df }
        | _, _ => none

noncomputable def evRegion (call : Caller) (cf : Cfg) (nt n0 : Nat) (ro : Option Nat) (ops : Array Oper) (draw : Bool) (st : St) : Option St :=
  if draw then
    if nodupB (late ops) && (List.range ops.size).all (late ops).contains then
      match stat ops (late ops) [] with
      | some L =>
        match evFast P call cf nt ops L st.T st.H st.next [] [] with
        | some (T', H', n', dirty) => some (addOut n0 st T' ⟨undef, H', n', dirty.filter fun d => Nat.blt d st.next⟩)
        | none => none
      | none => none
    else none
  else evSeq P call cf nt n0 ro ops (List.range ops.size) st

end

/-- Where a function stands, by what it began with. -/
structure SR (n0 : Nat) (H0 : Tr VObj) (ρ0 : Ren) (w0 : World) (nt : Nat) (ρ : Ren) (st : St) (a : Act) (w : World) : Prop where
  tr : TR ρ nt st.T.val a
  dr : DR ρ st.df a.defers
  rel : Rel ρ st.H.get w
  post : Post ρ0 H0.get w0 (fun n => n0 ≤ n ∧ n < st.next) (· ∈ st.dirty) ρ st.H.get w

/-- The same, without a world. -/
structure SS (n0 : Nat) (H0 : Tr VObj) (st : St) : Prop where
  rest : ∀ n, ¬ (n0 ≤ n ∧ n < st.next) → n ∉ st.dirty → st.H.get n = H0.get n
  le : n0 ≤ st.next
  old : ∀ d ∈ st.dirty, d < n0

section
variable {P : Program} {call : Caller} {cf : Cfg} {nt n0 : Nat} {H0 : Tr VObj} {ρ0 : Ren} {w0 : World}

theorem mem_addDirty {n0 d : Nat} : ∀ {new old : List Nat}, d ∈ addDirty n0 new old ↔ d ∈ old ∨ (d ∈ new ∧ d < n0)
  | [], old => by simp [addDirty]
  | x :: new, old => by
    have e : addDirty n0 (x :: new) old = addDirty n0 new (if Nat.blt x n0 && !old.contains x then x :: old else old) := rfl
    rw [e, mem_addDirty]
    by_cases h : (Nat.blt x n0 && !old.contains x) = true
    · rw [if_pos h]
      simp only [Bool.and_eq_true, Nat.blt_eq, Bool.not_eq_true', List.contains_eq_mem, decide_eq_false_iff_not] at h
      simp only [List.mem_cons]
      constructor
      · rintro ((rfl | h1) | ⟨h1, h2⟩)
        · exact .inr ⟨.inl rfl, h.1⟩
        · exact .inl h1
        · exact .inr ⟨.inr h1, h2⟩
      · rintro (h1 | ⟨rfl | h1, h2⟩)
        · exact .inl (.inr h1)
        · exact .inl (.inl rfl)
        · exact .inr ⟨h1, h2⟩
    · rw [if_neg h]
      simp only [Bool.and_eq_true, Nat.blt_eq, Bool.not_eq_true', List.contains_eq_mem, decide_eq_false_iff_not] at h
      simp only [List.mem_cons]
      constructor
      · rintro (h1 | ⟨h1, h2⟩)
        · exact .inl h1
        · exact .inr ⟨.inr h1, h2⟩
      · rintro (h1 | ⟨rfl | h1, h2⟩)
        · exact .inl h1
        · refine .inl (Classical.byContradiction fun hc => h ⟨h2, hc⟩)
        · exact .inr ⟨h1, h2⟩

theorem SS.step {st : St} (h : SS n0 H0 st) {out : Out} {T : Tr Value} (hr : Rest st.H st.next out) (hle : st.next ≤ out.next) (hd : ∀ d ∈ out.dirty, d < st.next) : SS n0 H0 (addOut n0 st T out) where
  rest n hn hnd := by
    simp only [addOut] at hn hnd ⊢
    rw [mem_addDirty] at hnd
    have hle0 := h.le
    by_cases h1 : n0 ≤ n
    · have h2 : ¬ n < out.next := fun h2 => hn ⟨h1, h2⟩
      rw [hr n (by omega) (fun hm => by have := hd n hm; omega)]
      exact h.rest n (by omega) fun hm => hnd (.inl hm)
    · rw [hr n (by omega) (fun hm => hnd (.inr ⟨hm, by omega⟩))]
      exact h.rest n (by omega) fun hm => hnd (.inl hm)
  le := Nat.le_trans h.le hle
  old d hdm := by
    simp only [addOut, mem_addDirty] at hdm
    rcases hdm with h1 | h1
    · exact h.old d h1
    · exact h1.2

theorem SS.bound {st : St} (h : SS n0 H0 st) (hb0 : ∀ n, (H0.get n).isSome → n < n0) : ∀ n, (st.H.get n).isSome → n < st.next := fun n hn => by
  have hle := h.le
  by_cases h1 : n0 ≤ n ∧ n < st.next
  · exact h1.2
  · by_cases h2 : n ∈ st.dirty
    · have := h.old n h2; omega
    · rw [h.rest n h1 h2] at hn
      have := hb0 n hn
      omega

/-- A piece more. -/
theorem SR.step {st : St} {ρ ρ' : Ren} {a a' : Act} {w w' : World} {out : Out} {v' : Value} {T : Tr Value} (h : SR n0 H0 ρ0 w0 nt ρ st a w) (hs : SS n0 H0 st) (hd : ∀ d ∈ out.dirty, d < st.next)
    (g : Good ρ st.H st.next w out v' ρ' w') (hfree : ∀ n, st.next ≤ n → n < out.next → ρ0 n = none) (ht : TR ρ' nt T.val a') (hdf : a'.defers = a.defers) :
    SR n0 H0 ρ0 w0 nt ρ' (addOut n0 st T out) a' w' := by
  have hle := hs.le
  have hgle := g.le
  obtain ⟨rel', post'⟩ := Post.andThen h.post (fun n h1 h2 => hs.rest n h1 h2) h.rel (fun _ _ => rfl) g.post fun n hn => hfree n hn.1 hn.2
  have eH : ∀ inst : ∀ n, Decidable ((st.next ≤ n ∧ n < out.next) ∨ n ∈ out.dirty), (fun n => @ite _ ((st.next ≤ n ∧ n < out.next) ∨ n ∈ out.dirty) (inst n) (out.H.get n) (st.H.get n)) = out.H.get := by
    intro inst; funext n
    by_cases hc : (st.next ≤ n ∧ n < out.next) ∨ n ∈ out.dirty
    · rw [if_pos hc]
    · rw [if_neg hc, g.rest n (fun h => hc (.inl h)) (fun h => hc (.inr h))]
  have rel'' := Eq.mp (congrArg (fun X => Rel ρ' X w') (eH _)) rel'
  have post'' := Eq.mp (congrArg (fun X => Post ρ0 H0.get w0 _ _ ρ' X w') (eH _)) post'
  have eC : (fun n => (n0 ≤ n ∧ n < st.next) ∨ (st.next ≤ n ∧ n < out.next)) = fun n => n0 ≤ n ∧ n < out.next := by funext n; apply propext; omega
  have eD : (fun n => n ∈ st.dirty ∨ (n ∈ out.dirty ∧ ¬ (n0 ≤ n ∧ n < st.next))) = (· ∈ addDirty n0 out.dirty st.dirty) := by
    funext n; apply propext
    rw [mem_addDirty]
    constructor
    · rintro (h1 | ⟨h1, h2⟩)
      · exact .inl h1
      · have := hd n h1; exact .inr ⟨h1, by omega⟩
    · rintro (h1 | ⟨h1, h2⟩)
      · exact .inl h1
      · exact .inr ⟨h1, by omega⟩
  rw [eC, eD] at post''
  exact ⟨ht, by rw [hdf]; exact h.dr.mono g.post.sub, rel'', post''⟩

theorem put_defers (a : Act) (dst : Option Nat) (v : Value) : (a.put dst v).defers = a.defers := by cases dst <;> rfl

theorem TR.putT {ρ : Ren} {T : Tr Value} {a : Act} (h : TR ρ nt T.val a) {dst : Option Nat} {v v' : Value} (hd : ∀ d, dst = some d → d < nt ∧ d < 1099511627775) (hv : VR ρ v v') : TR ρ nt (Eng.putT T dst v).val (a.put dst v') := by
  cases dst with
  | none => exact h
  | some d =>
    have := h.put hv (hd d rfl).1
    refine ⟨this.size, fun t => ?_⟩
    have h2 := this.val t
    rw [putT_val fun d' hd' => (hd d' hd').2]
    simp only [Option.some.injEq]
    by_cases e : t = d
    · subst e; simp only [if_true] at h2 ⊢; exact h2
    · rw [if_neg e] at h2; rw [if_neg (Ne.symm e)]; exact h2

theorem evDefer_ok {ρ : Ren} {T : Tr Value} {a : Act} {o : Oper} {d : Df} (h : evDefer cf T o = some d) (htr : TR ρ nt T.val a) (hg : ∀ g, g < cf.nb → ∃ k, ρ g = some (g, k)) :
    o.guard = none ∧ o.dst = none ∧ ∃ d' l', (∀ l, DR ρ l l' → DR ρ (d :: l) (d' :: l')) ∧ (∀ l l', DR ρ l l' → DR ρ (d :: l) (d' :: l')) ∧ ∀ w, (execOp a.eval o).run P w = .ok (.defer d') w := by
  obtain ⟨dst, op, ty, pos, after, guard⟩ := o
  unfold evDefer at h
  cases op with
  | defer c =>
    obtain ⟨callee, args, ats⟩ := c
    cases callee with
    | value f =>
      simp only at h
      split at h
      · rename_i hc
        simp only [Bool.and_eq_true, List.all_eq_true, Option.isNone_iff_eq_none] at hc
        obtain ⟨⟨hops, hgd⟩, hdst⟩ := hc
        have hE : ∀ x ∈ (Op.defer ⟨.value f, args, ats⟩).operands, VR ρ (env T x) (a.eval x) := fun x hx => env_ok htr hg (hops x (by simpa using hx))
        have hf := hE f (by simp [Op.operands, Call.operands])
        have hargs : VRs ρ (args.toList.map (env T)) (args.toList.map a.eval) := VRs.mapV _ fun y hy => hE y (by simp [Op.operands, Call.operands]; exact .inr (by simpa using hy))
        split at h
        · rename_i g first cap hv
          rw [hv] at hf
          simp only [Option.some.injEq] at h; subst h
          obtain ⟨first', cap', h1, h2, he⟩ := hf.func_inv
          refine ⟨hgd, hdst, { target := .fn (.func g) ⟨cap'⟩, args := ⟨first' ++ args.toList.map a.eval⟩ }, [], fun l hl => .fn (h1.append hargs) h2 hl, fun l l' hl => .fn (h1.append hargs) h2 hl, fun w => ?_⟩
          have e : ((⟨first'⟩ : Array Value) ++ args.map a.eval) = ⟨first' ++ args.toList.map a.eval⟩ := by rw [← Array.toList_inj]; simp
          simp [execOp, resolve, he, Deferred.ofValue, e]
        · cases h
      · cases h
    | _ => simp at h
  | _ => simp at h

theorem evSeq_ss (hcr : CallRest call) {ro : Option Nat} {ops : Array Oper} : ∀ (l : List Nat) (st st' : St), evSeq P call cf nt n0 ro ops l st = some st' → SS n0 H0 st → SS n0 H0 st' ∧ st.next ≤ st'.next := by
  intro l
  induction l with
  | nil => intro st st' h hs; simp only [evSeq, Option.some.injEq] at h; subst h; exact ⟨hs, Nat.le_refl _⟩
  | cons i l ih =>
    intro st st' h hs
    simp only [evSeq] at h
    cases ho : ops[i]? with
    | none => simp [ho] at h
    | some o =>
      simp only [ho] at h
      cases he : evOne P call cf nt ops st.T st.H st.next o with
      | some q =>
        obtain ⟨out, kd, ran⟩ := q
        simp only [he] at h
        have hk : RcOk P call cf nt ops ⟨i, [], o, st.T, st.H, st.next, out, kd, ran⟩ := rcOk hcr ho he
        obtain ⟨h1, h2⟩ := ih _ st' h (hs.step hk.rest hk.le hk.dirty)
        exact ⟨h1, Nat.le_trans hk.le h2⟩
      | none =>
        simp only [he] at h
        split at h
        · obtain ⟨h1, h2⟩ := ih _ st' h ⟨hs.rest, hs.le, hs.old⟩
          exact ⟨h1, h2⟩
        · cases h

theorem evSeq_ok (hb0 : ∀ n, (H0.get n).isSome → n < n0) (hcr : CallRest call) (hco : CallOk P cf call) {ro ro' : Option Nat} (hro : ro = none → ro' = none) {ops : Array Oper} {B : Nat} (hg : ∀ g, g < cf.nb → ∃ k, ρ0 g = some (g, k)) (hfree : ∀ n, n0 ≤ n → n < B → ρ0 n = none) :
    ∀ (l : List Nat) (st st' : St), evSeq P call cf nt n0 ro ops l st = some st' → SS n0 H0 st → st'.next ≤ B → ∀ (ρ : Ren) (a : Act) (w : World) (Q : Exit → Act → World → Prop), SR n0 H0 ρ0 w0 nt ρ st a w →
      (∀ ρ' a' w', SR n0 H0 ρ0 w0 nt ρ' st' a' w' → Q .normal a' w') → wpOpsIn (FR ro') 0 P ops Q l a w := by
  intro l
  induction l with
  | nil =>
    intro st st' h hs hB ρ a w Q hR hQ
    simp only [evSeq, Option.some.injEq] at h; subst h
    exact hQ ρ a w hR
  | cons i l ih =>
    intro st st' h hs hB ρ a w Q hR hQ
    simp only [evSeq] at h
    cases ho : ops[i]? with
    | none => simp [ho] at h
    | some o =>
      simp only [ho] at h
      have hg' : ∀ g, g < cf.nb → ∃ k, ρ g = some (g, k) := fun g hgn => by
        obtain ⟨k, hk⟩ := hg g hgn
        exact ⟨k, hR.post.sub _ _ hk⟩
      cases he : evOne P call cf nt ops st.T st.H st.next o with
      | some q =>
        obtain ⟨out, kd, ran⟩ := q
        simp only [he] at h
        have hk : RcOk P call cf nt ops ⟨i, [], o, st.T, st.H, st.next, out, kd, ran⟩ := rcOk hcr ho he
        have hss := hs.step (T := putT st.T o.dst out.v) hk.rest hk.le hk.dirty
        have hle := (evSeq_ss hcr l _ st' h hss).2
        have hnext : out.next ≤ B := Nat.le_trans hle hB
        have hn0 := hs.le
        have hfr : ∀ n, st.next ≤ n → n < out.next → ρ n = none := fun n h1 h2 => by
          rw [hR.post.ren n (by omega)]; exact hfree n (by omega) (by omega)
        have hfr0 : ∀ n, st.next ≤ n → n < out.next → ρ0 n = none := fun n h1 h2 => hfree n (by omega) (by omega)
        have hwant : Region.wanted o (yielded ops a.tmps) = wantV nt ops st.T o := wanted_eq (ρ := ρ) hR.tr.size fun d _ => hR.tr.val d
        have hE : ∀ x ∈ o.op.operands, VR ρ (env st.T x) (a.eval x) := fun x hx => env_ok hR.tr hg' (hk.operands x hx)
        have next : ∀ v' w' ρ', Good ρ st.H st.next w out v' ρ' w' → wpOpsIn (FR ro') 0 P ops Q l (a.put o.dst v') w' := fun v' w' ρ' g =>
          ih _ st' h hss hB ρ' _ w' Q (hR.step hs hk.dirty g hfr0 ((hR.tr.mono g.post.sub).putT hk.dst g.val) (put_defers _ _ _)) hQ
        simp only [wpOpsIn, ho]
        rw [hwant]
        cases hran : ran with
        | false =>
          obtain ⟨h1, h2, h3⟩ := hk.not hran
          simp only at h1 h2
          rw [h1, if_neg (by simp)]
          refine ⟨fun _ _ => trivial, next undef w ρ ?_⟩
          rw [h2]
          exact .still undef_VR hR.rel.lt
        | true =>
          obtain ⟨h1, h2, h3⟩ := hk.ran hran
          simp only at h1
          rw [h1, if_pos rfl]
          exact h3.all hco h2 hE hR.rel (hs.bound hb0) hg' hfr next
      | none =>
        simp only [he] at h
        split at h
        · rename_i d hd
          obtain ⟨g1, g2, d', l', -, hd2, hd3⟩ := evDefer_ok (P := P) hd hR.tr hg'
          have := hro rfl
          subst this
          simp only [wpOpsIn, ho]
          have hwant : Region.wanted o (yielded ops a.tmps) = true := by simp [Region.wanted, g1]
          rw [hwant, if_pos rfl]
          refine ⟨fun _ _ => trivial, ?_⟩
          show o.uponIn (FR none) 0 P a _ Q ((o.semAt none a.eval).run P w)
          rw [Oper.semAt_none, hd3 w]
          show wpOpsIn _ _ _ _ _ _ (({ a with defers := d' :: a.defers } : Act).put o.dst undef) w
          rw [g2]
          exact ih _ st' h ⟨hs.rest, hs.le, hs.old⟩ hB ρ _ w Q ⟨⟨hR.tr.size, hR.tr.val⟩, hd2 _ _ hR.dr, hR.rel, hR.post⟩ hQ
        · cases h

end
end Go.Eng
