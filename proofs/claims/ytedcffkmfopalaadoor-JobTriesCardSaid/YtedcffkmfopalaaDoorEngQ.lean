import Derived.Test.YtedcffkmfopalaaDoorEngP
namespace Go.Eng
open Go

section
variable (P : Program)

noncomputable def withH (n0 : Nat) (st : St) (H : Tr VObj) (next : Nat) (dirty : List Nat) : St := ⟨st.T, st.df, H, next, addDirty n0 dirty st.dirty⟩

def nameOk (n : Nat) : Bool := Nat.blt n 1099511627775

/-- A loop's record is turned. -/
noncomputable def setLoop (n0 : Nat) (st : St) (l : Nat) (s : LoopState) (pe : Option Code) : Option St :=
  match st.H.get l with
  | some (.lp _ _ nt T ps as bo D) => if nameOk l && Nat.blt l st.next then some (withH n0 st (Tr.put (some (.lp s pe nt T ps as bo D)) wide st.H l) st.next [l]) else none
  | _ => none

noncomputable def newBlock (n0 : Nat) (st : St) (o : VObj) : St := withH n0 st (Tr.put (some o) wide st.H st.next) (st.next + 1) []

noncomputable def evRangeGo (call : Caller) (n0 : Nat) (st : St) (L g : Nat) (args : List Value) : Option (Exit × St) :=
  match call (.fn g) args st.H st.next with
  | some out =>
    if Nat.ble st.next out.next && out.dirty.all (fun d => Nat.blt d st.next) then
      let st' := addOut n0 st st.T out
      match st'.H.get L with
      | some (.lp s pe _ _ _ _ _ _) =>
        match s with
        | .busy => none
        | _ =>
          match setLoop n0 st' L .exhausted pe with
          | some st'' =>
            match pe with
            | none => some (.normal, st'')
            | some .ret => some (.ret, st'')
            | some (.exit id) => some (.exit id, st'')
            | _ => none
          | none => none
      | _ => none
    else none
  | none => none

noncomputable def evRange (call : Caller) (cf : Cfg) (nt n0 : Nat) (ro : Option Nat) (f : Operand) (ps : Array Tmp) (assign body : Code) (st : St) : Option (Exit × St) :=
  if okOperand cf.nb f && nameOk (st.next + 2) then
    match env st.T f with
    | .func (.func g) ⟨first⟩ ⟨cap⟩ =>
      if plainFn P g then
        match ro with
        | none =>
          let st1 := newBlock n0 st (.other (.deferred (some [])))
          let st2 := newBlock n0 { st1 with df := .mark st.next :: st.df } (.lp .ready none nt st.T ps.toList assign body st.next)
          evRangeGo call n0 st2 (st.next + 1) g (first ++ [.func (.yield (st.next + 1)) #[] #[]] ++ cap)
        | some l0 =>
          match st.H.get l0 with
          | some (.lp _ _ _ _ _ _ _ D) =>
            evRangeGo call n0 (newBlock n0 st (.lp .ready none nt st.T ps.toList assign body D)) st.next g (first ++ [.func (.yield st.next) #[] #[]] ++ cap)
          | _ => none
      else none
    | _ => none
  else none

noncomputable def iter (f : St → Option (Exit × St)) : Nat → St → Option (Exit × St)
  | 0, _ => none
  | n + 1, st =>
    match f st with
    | some (.normal, st') => iter f n st'
    | r => r

noncomputable def evCode (call : Caller) (cf : Cfg) (nt n0 : Nat) (ro : Option Nat) (lf : Nat) : Code → St → Option (Exit × St)
  | .skip, st => some (.normal, st)
  | .label _, st => some (.normal, st)
  | .region _ ops draw, st => (evRegion P call cf nt n0 ro ops draw st).map fun st' => (.normal, st')
  | .seq a b, st =>
    match evCode call cf nt n0 ro lf a st with
    | some (.normal, st') => evCode call cf nt n0 ro lf b st'
    | r => r
  | .cond c x y, st =>
    if okOperand cf.nb c then
      match env st.T c with
      | .bool t => if t then evCode call cf nt n0 ro lf x st else evCode call cf nt n0 ro lf y st
      | _ => none
    else none
  | .block id c, st =>
    match evCode call cf nt n0 ro lf c st with
    | some (.exit id', st') => if id' = id then some (.normal, st') else some (.exit id', st')
    | r => r
  | .loop c, st => iter (evCode call cf nt n0 ro lf c) lf st
  | .exit id, st => some (.exit id, st)
  | .ret, st => some (.ret, st)
  | .rangeFunc f ps assign body, st => evRange P call cf nt n0 ro f ps assign body st
  | _, _ => none

end

section
variable {P : Program} {call : Caller} {cf : Cfg} {nt n0 : Nat} {H0 : Tr VObj} {ρ0 : Ren} {w0 : World}

theorem rest_put {H : Tr VObj} {next l : Nat} {x : Option VObj} (hl : nameOk l = true) : Rest H next ⟨undef, Tr.put x wide H l, next, [l]⟩ := Rest.put (by simpa [nameOk, Nat.blt_eq] using hl)

theorem setLoop_ss {st st' : St} {l : Nat} {s : LoopState} {pe : Option Code} (h : setLoop n0 st l s pe = some st') (hs : SS n0 H0 st) : SS n0 H0 st' ∧ st'.next = st.next := by
  unfold setLoop at h
  split at h
  · split at h
    · rename_i hc
      simp only [Option.some.injEq] at h; subst h
      rw [Bool.and_eq_true] at hc
      exact ⟨hs.step (out := ⟨undef, _, st.next, [l]⟩) (T := st.T) (rest_put hc.1) (Nat.le_refl _) (fun d hd => by simp only [List.mem_singleton] at hd; subst hd; simpa [Nat.blt_eq] using hc.2), rfl⟩
    · cases h
  · cases h

theorem newBlock_ss {st : St} {o : VObj} (hn : st.next < 1099511627775) (hs : SS n0 H0 st) : SS n0 H0 (newBlock n0 st o) :=
  hs.step (out := ⟨undef, Tr.put (some o) wide st.H st.next, st.next + 1, []⟩) (T := st.T) (Rest.new hn) (Nat.le_succ _) (fun d hd => by cases hd)

theorem evRangeGo_ss (hcr : CallRest call) {st st' : St} {L g : Nat} {args : List Value} {ex : Exit} (h : evRangeGo call n0 st L g args = some (ex, st')) (hs : SS n0 H0 st) : SS n0 H0 st' ∧ st.next ≤ st'.next := by
  unfold evRangeGo at h
  split at h
  · rename_i out ho
    split at h
    · rename_i hc
      rw [Bool.and_eq_true, List.all_eq_true] at hc
      have hle : st.next ≤ out.next := Nat.le_of_ble_eq_true hc.1
      have h1 := hs.step (T := st.T) (hcr _ _ _ _ _ ho) hle (fun d hd => by simpa [Nat.blt_eq] using hc.2 d hd)
      dsimp only at h
      split at h
      · rename_i s pe nt' T' ps' as' bo' D' hg
        split at h
        · cases h
        · split at h
          · rename_i st'' hset
            obtain ⟨h2, h3⟩ := setLoop_ss hset h1
            have h4 : st.next ≤ st''.next := by rw [h3]; exact hle
            split at h
            · simp only [Option.some.injEq, Prod.mk.injEq] at h; obtain ⟨-, rfl⟩ := h; exact ⟨h2, h4⟩
            · simp only [Option.some.injEq, Prod.mk.injEq] at h; obtain ⟨-, rfl⟩ := h; exact ⟨h2, h4⟩
            · simp only [Option.some.injEq, Prod.mk.injEq] at h; obtain ⟨-, rfl⟩ := h; exact ⟨h2, h4⟩
            · cases h
          · cases h
      · cases h
    · cases h
  · cases h

theorem evRange_ss (hcr : CallRest call) {ro : Option Nat} {f : Operand} {ps : Array Tmp} {assign body : Code} {st st' : St} {ex : Exit} (h : evRange P call cf nt n0 ro f ps assign body st = some (ex, st')) (hs : SS n0 H0 st) :
    SS n0 H0 st' ∧ st.next ≤ st'.next := by
  unfold evRange at h
  split at h
  · rename_i hc
    rw [Bool.and_eq_true] at hc
    have hn : st.next + 2 < 1099511627775 := by simpa [nameOk, Nat.blt_eq] using hc.2
    split at h
    · split at h
      · split at h
        · have h1 := newBlock_ss (n0 := n0) (H0 := H0) (o := .other (.deferred (some []))) (show st.next < 1099511627775 by omega) hs
          have h1' : SS n0 H0 { newBlock n0 st (.other (.deferred (some []))) with df := .mark st.next :: st.df } := ⟨h1.rest, h1.le, h1.old⟩
          have h2 := newBlock_ss (n0 := n0) (H0 := H0) (o := .lp .ready none nt st.T ps.toList assign body st.next) (st := { newBlock n0 st (.other (.deferred (some []))) with df := .mark st.next :: st.df })
            (show st.next + 1 < 1099511627775 by omega) h1'
          obtain ⟨h3, h4⟩ := evRangeGo_ss hcr h h2
          exact ⟨h3, Nat.le_trans (show st.next ≤ st.next + 1 + 1 by omega) h4⟩
        · split at h
          · obtain ⟨h3, h4⟩ := evRangeGo_ss hcr h (newBlock_ss (show st.next < 1099511627775 by omega) hs)
            exact ⟨h3, Nat.le_trans (show st.next ≤ st.next + 1 by omega) h4⟩
          · cases h
      · cases h
    · cases h
  · cases h

theorem iter_ss {f : St → Option (Exit × St)} (hf : ∀ st ex st', f st = some (ex, st') → SS n0 H0 st → SS n0 H0 st' ∧ st.next ≤ st'.next) :
    ∀ (n : Nat) (st : St) (ex : Exit) (st' : St), iter f n st = some (ex, st') → SS n0 H0 st → SS n0 H0 st' ∧ st.next ≤ st'.next := by
  intro n
  induction n with
  | zero => intro st ex st' h; simp [iter] at h
  | succ n ih =>
    intro st ex st' h hs
    simp only [iter] at h
    split at h
    · rename_i st1 h1
      obtain ⟨h2, h3⟩ := hf _ _ _ h1 hs
      obtain ⟨h4, h5⟩ := ih _ _ _ h h2
      exact ⟨h4, Nat.le_trans h3 h5⟩
    · exact hf _ _ _ h hs

theorem evCode_ss (hcr : CallRest call) {ro : Option Nat} {lf : Nat} : ∀ (c : Code) (st : St) (ex : Exit) (st' : St), evCode P call cf nt n0 ro lf c st = some (ex, st') → SS n0 H0 st → SS n0 H0 st' ∧ st.next ≤ st'.next := by
  intro c
  induction c with
  | skip => intro st ex st' h hs; simp only [evCode, Option.some.injEq, Prod.mk.injEq] at h; obtain ⟨-, rfl⟩ := h; exact ⟨hs, Nat.le_refl _⟩
  | label l => intro st ex st' h hs; simp only [evCode, Option.some.injEq, Prod.mk.injEq] at h; obtain ⟨-, rfl⟩ := h; exact ⟨hs, Nat.le_refl _⟩
  | exit l => intro st ex st' h hs; simp only [evCode, Option.some.injEq, Prod.mk.injEq] at h; obtain ⟨-, rfl⟩ := h; exact ⟨hs, Nat.le_refl _⟩
  | ret => intro st ex st' h hs; simp only [evCode, Option.some.injEq, Prod.mk.injEq] at h; obtain ⟨-, rfl⟩ := h; exact ⟨hs, Nat.le_refl _⟩
  | region id ops draw =>
    intro st ex st' h hs
    simp only [evCode, Option.map_eq_some_iff, Prod.mk.injEq] at h
    obtain ⟨st1, h1, -, rfl⟩ := h
    exact evRegion_ss hcr h1 hs
  | seq a b iha ihb =>
    intro st ex st' h hs
    simp only [evCode] at h
    split at h
    · rename_i st1 h1
      obtain ⟨h2, h3⟩ := iha _ _ _ h1 hs
      obtain ⟨h4, h5⟩ := ihb _ _ _ h h2
      exact ⟨h4, Nat.le_trans h3 h5⟩
    · exact iha _ _ _ h hs
  | cond c x y ihx ihy =>
    intro st ex st' h hs
    simp only [evCode] at h
    split at h
    · split at h
      · split at h
        · exact ihx _ _ _ h hs
        · exact ihy _ _ _ h hs
      · cases h
    · cases h
  | block id c ih =>
    intro st ex st' h hs
    simp only [evCode] at h
    split at h
    · rename_i id' st1 h1
      have := ih _ _ _ h1 hs
      split at h <;> (simp only [Option.some.injEq, Prod.mk.injEq] at h; obtain ⟨-, rfl⟩ := h; exact this)
    · exact ih _ _ _ h hs
  | loop c ih =>
    intro st ex st' h hs
    simp only [evCode] at h
    exact iter_ss (fun st ex st' h hs => ih st ex st' h hs) _ _ _ _ h hs
  | rangeFunc f ps assign body _ _ =>
    intro st ex st' h hs
    simp only [evCode] at h
    exact evRange_ss hcr h hs
  | scope c _ => intro st ex st' h; simp [evCode] at h
  | goto l => intro st ex st' h; simp [evCode] at h
  | refuse s => intro st ex st' h; simp [evCode] at h

/-- A loop, by its rounds. -/
theorem wpIn_loopN {F : Fence} {m : Nat} {c : Code} {Q : Exit → Act → World → Prop} (J : Nat → Act → World → Prop)
    (round : ∀ n a w, J n a w → c.wpIn F m P (Exit.then (fun a' w' => ∃ j, j < n ∧ J j a' w') Q) a w) (n : Nat) (a : Act) (w : World) (h : J n a w) : (Code.loop c).wpIn F m P Q a w := by
  intro b k cs hro hb hr
  have key : ∀ n a w, J n a w →
      ∃ e a' w', Q e a' w' ∧ ArrivesIn (Machine.fenced P F) P (lone (b.atR a (.code c :: .inLoop c :: k)) cs w) b k cs e a' w' := by
    intro n
    induction n using Nat.strongRecOn with
    | _ n ih =>
      intro a w hJ
      obtain ⟨e, a₁, w₁, hq, harr⟩ := round n a w hJ b (.inLoop c :: k) cs hro hb hr
      cases e with
      | normal =>
        obtain ⟨j, hlt, hI₁⟩ := hq
        obtain ⟨e₂, a₂, w₂, hq₂, harr₂⟩ := ih j hlt a₁ w₁ hI₁
        exact ⟨e₂, a₂, w₂, hq₂, .of_steps (StepsIn.trans harr (.one (fenced_calm hb hr rfl) stepR_inLoop)) harr₂⟩
      | exit id => exact ⟨_, a₁, w₁, hq, .pass (x := .inLoop c) rfl (fun _ _ => .inl (by simp)) harr⟩
      | goto l => exact ⟨_, a₁, w₁, hq, .pass (x := .inLoop c) rfl (fun _ _ => .inl (by simp)) harr⟩
      | ret => exact ⟨_, a₁, w₁, hq, .pass (x := .inLoop c) rfl (fun _ _ => .inl (by simp)) harr⟩
      | panic ch => exact ⟨_, a₁, w₁, hq, .pass (x := .inLoop c) rfl (fun _ _ => .inl (by simp)) harr⟩
      | outgrown => exact ⟨_, a₁, w₁, hq, .pass (x := .inLoop c) rfl (fun _ _ => .inl (by simp)) harr⟩
  obtain ⟨e, a', w', hq, harr⟩ := key n a w h
  exact ⟨e, a', w', hq, .of_steps (.one (fenced_calm hb hr rfl) stepR_loop) harr⟩

end
end Go.Eng
