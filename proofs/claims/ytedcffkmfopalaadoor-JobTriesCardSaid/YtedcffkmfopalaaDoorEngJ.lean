import Derived.Test.YtedcffkmfopalaaDoorEngI
namespace Go.Eng
open Go

section
variable {P : Program} {ρ : Ren}

theorem Good.bound {H : Tr VObj} {next : Nat} {w w' : World} {out : Out} {v' : Value} {ρ' : Ren} (g : Good ρ H next w out v' ρ' w') (hb : ∀ n, (H.get n).isSome → n < next) :
    ∀ n, (out.H.get n).isSome → n < out.next := fun n hn => by
  by_cases h1 : next ≤ n ∧ n < out.next
  · exact h1.2
  · by_cases h2 : n ∈ out.dirty
    · exact Nat.lt_of_lt_of_le (hb n (g.post.live n h2)) g.le
    · rw [g.rest n h1 h2] at hn; exact Nat.lt_of_lt_of_le (hb n hn) g.le

/-- The kinds of what an operation comes to. -/
inductive OpIs (P : Program) (cf : Cfg) (call : Caller) (E : Operand → Value) (H : Tr VObj) (next : Nat) (o : Oper) : Out → Kd → Prop
  | p {v : Value} (h : evP P cf.nb E o = some v) : OpIs P cf call E H next o ⟨v, H, next, []⟩ .p
  | r {v : Value} {n : Nat} (h : evR P E H o = some (v, n)) : OpIs P cf call E H next o ⟨v, H, next, []⟩ (.r n)
  | l {v : Value} {n : Nat} (h : evL P E H o = some (v, n)) : OpIs P cf call E H next o ⟨v, H, next, []⟩ (.r n)
  | a {v : Value} {ob : VObj} (h : evA P E next o = some (v, ob)) (hn : next < 1099511627775) : OpIs P cf call E H next o ⟨v, Tr.put (some ob) wide H next, next + 1, []⟩ .a
  | s {out : Out} (h : evS P E H next o = some out) : OpIs P cf call E H next o out .e
  | x {out : Out} (h : evX P E H next o = some out) : OpIs P cf call E H next o out .e
  | m {v : Value} (h : memo cf E o = some v) : OpIs P cf call E H next o ⟨v, H, next, []⟩ .p
  | xq {k : XK} {args : List Value} {v : Value} (hk : xkOf cf E o = some (k, args)) (h : xQ P cf k args = some v) : OpIs P cf call E H next o ⟨v, H, next, []⟩ .p
  | xr {k : XK} {args : List Value} {v : Value} {n : Nat} (hk : xkOf cf E o = some (k, args)) (h : xR P cf k args H = some (v, n)) : OpIs P cf call E H next o ⟨v, H, next, []⟩ (.r n)
  | xa {k : XK} {args : List Value} {v : Value} {ob : VObj} (hk : xkOf cf E o = some (k, args)) (h : xA cf k args next = some (v, ob)) (hn : next < 1099511627775) : OpIs P cf call E H next o ⟨v, Tr.put (some ob) wide H next, next + 1, []⟩ .a
  | xs {k : XK} {args : List Value} {out : Out} (hk : xkOf cf E o = some (k, args)) (h : xS P cf k args H next = some out) : OpIs P cf call E H next o out .e
  | c {out : Out} {f : Tgt} {args : List Value} (h : evCallee P cf E o = some (f, args)) (hc : call f args H next = some out) : OpIs P cf call E H next o out .e

theorem evSlow_is {cf : Cfg} {call : Caller} {E : Operand → Value} {H : Tr VObj} {next : Nat} {o : Oper} {out : Out} {kd : Kd} (h : evSlow P cf call E H next o = some (out, kd)) :
    (∀ c, o.op ≠ .defer c) ∧ OpIs P cf call E H next o out kd := by
  unfold evSlow at h
  split at h
  · cases h
  · rename_i hd
    refine ⟨fun c hc => hd (by rw [hc]; rfl), ?_⟩
    split at h
    · rename_i k args hk
      split at h
      · rename_i v hv
        simp only [Option.some.injEq, Prod.mk.injEq] at h; obtain ⟨rfl, rfl⟩ := h; exact .xq hk hv
      · split at h
        · rename_i v n hv
          simp only [Option.some.injEq, Prod.mk.injEq] at h; obtain ⟨rfl, rfl⟩ := h; exact .xr hk hv
        · split at h
          · rename_i v ob hv
            split at h
            · rename_i hn
              simp only [Option.some.injEq, Prod.mk.injEq] at h; obtain ⟨rfl, rfl⟩ := h; exact .xa hk hv hn
            · cases h
          · split at h
            · rename_i o' hv
              simp only [Option.some.injEq, Prod.mk.injEq] at h; obtain ⟨rfl, rfl⟩ := h; exact .xs hk hv
            · cases h
    · split at h
      · rename_i v hv
        simp only [Option.some.injEq, Prod.mk.injEq] at h; obtain ⟨rfl, rfl⟩ := h; exact .m hv
      · skip
        split at h
        · rename_i v hv
          simp only [Option.some.injEq, Prod.mk.injEq] at h; obtain ⟨rfl, rfl⟩ := h; exact .p hv
        · split at h
          · rename_i v n hv
            simp only [Option.some.injEq, Prod.mk.injEq] at h; obtain ⟨rfl, rfl⟩ := h; exact .r hv
          · split at h
            · rename_i v n hv
              simp only [Option.some.injEq, Prod.mk.injEq] at h; obtain ⟨rfl, rfl⟩ := h; exact .l hv
            · split at h
              · rename_i v ob hv
                split at h
                · rename_i hn
                  simp only [Option.some.injEq, Prod.mk.injEq] at h; obtain ⟨rfl, rfl⟩ := h; exact .a hv hn
                · cases h
              · split at h
                · rename_i o' hv
                  simp only [Option.some.injEq, Prod.mk.injEq] at h; obtain ⟨rfl, rfl⟩ := h; exact .s hv
                · split at h
                  · rename_i o' hv
                    simp only [Option.some.injEq, Prod.mk.injEq] at h; obtain ⟨rfl, rfl⟩ := h; exact .x hv
                  · split at h
                    · rename_i f args hv
                      rw [Option.map_eq_some_iff] at h
                      obtain ⟨o', ho, he⟩ := h
                      simp only [Prod.mk.injEq] at he; obtain ⟨rfl, rfl⟩ := he; exact .c hv ho
                    · cases h

theorem evP_of_struct {nb : Nat} {E : Operand → Value} {o : Oper} {v : Value} (hc : cls o.op = .st) (h : structV P E o.op = some v) : evP P nb E o = some v := by
  have hf : fastInt P E o.op = none := by
    unfold fastInt
    split
    · rename_i hb; rw [hb] at hc; simp [cls] at hc
    · rfl
  simp only [evP, hf, h]

theorem evP_of_fast {nb : Nat} {E : Operand → Value} {o : Oper} {v : Value} (h : fastInt P E o.op = some v) (hf : fixd nb 8 v = true) : evP P nb E o = some v := by
  simp only [evP, h, hf, if_true]

theorem evOp_is {cf : Cfg} {call : Caller} {E : Operand → Value} {H : Tr VObj} {next : Nat} {o : Oper} {out : Out} {kd : Kd} (h : evOp P cf call E H next o = some (out, kd)) :
    (∀ c, o.op ≠ .defer c) ∧ OpIs P cf call E H next o out kd := by
  unfold evOp at h
  split at h
  · rename_i hc
    split at h
    · rename_i v hv
      simp only [Option.some.injEq, Prod.mk.injEq] at h; obtain ⟨rfl, rfl⟩ := h
      exact ⟨fun c e => by rw [e] at hc; simp [cls] at hc, .p (evP_of_struct hc hv)⟩
    · exact evSlow_is h
  · rename_i hc
    split at h
    · rename_i v hv
      split at h
      · rename_i hf
        simp only [Option.some.injEq, Prod.mk.injEq] at h; obtain ⟨rfl, rfl⟩ := h
        exact ⟨fun c e => by rw [e] at hc; simp [cls] at hc, .p (evP_of_fast hv hf)⟩
      · cases h
    · exact evSlow_is h
  · rename_i hc
    split at h
    · rename_i v n hv
      simp only [Option.some.injEq, Prod.mk.injEq] at h; obtain ⟨rfl, rfl⟩ := h
      exact ⟨fun c e => by rw [e] at hc; simp [cls] at hc, .r hv⟩
    · exact evSlow_is h
  · rename_i hc
    split at h
    · rename_i o' hv
      simp only [Option.some.injEq, Prod.mk.injEq] at h; obtain ⟨rfl, rfl⟩ := h
      exact ⟨fun c e => by rw [e] at hc; simp [cls] at hc, .s hv⟩
    · exact evSlow_is h
  · rename_i hc
    split at h
    · rename_i v ob hv
      split at h
      · rename_i hn
        simp only [Option.some.injEq, Prod.mk.injEq] at h; obtain ⟨rfl, rfl⟩ := h
        exact ⟨fun c e => by rw [e] at hc; simp [cls] at hc, .a hv hn⟩
      · cases h
    · exact evSlow_is h
  · rename_i hc
    split at h
    · exact evSlow_is h
    · split at h
      · rename_i f args hv
        rw [Option.map_eq_some_iff] at h
        obtain ⟨o', ho, he⟩ := h
        simp only [Prod.mk.injEq] at he; obtain ⟨rfl, rfl⟩ := he
        exact ⟨fun c e => by rw [e] at hc; simp [cls] at hc, .c hv ho⟩
      · exact evSlow_is h
  · exact evSlow_is h

theorem Post.refl' {H : Nat → Option VObj} {w : World} {C D : Nat → Prop} (hC : ∀ n, ¬ C n) (hD : ∀ n, ¬ D n) (hlt : ∀ n b k, ρ n = some (b, k) → k = far ∨ b < w.heap.size) : Post ρ H w C D ρ H w where
  ren _ _ := rfl
  lt := hlt
  hr n o hn := by rcases hn with h | h; exact absurd h (hC n); exact absurd h (hD n)
  new n b k hn := by rcases hn with h | h; exact absurd h (hC n); exact absurd h (hD n)
  inj n m b k k' hn := by rcases hn with h | h; exact absurd h (hC n); exact absurd h (hD n)
  frame _ _ _ := rfl
  live d hd := absurd hd (hD d)
  free n hn := absurd hn (hC n)
  os := rfl
  tape := rfl
  output := rfl
  size := Nat.le_refl _

theorem Good.still {H : Tr VObj} {next : Nat} {w : World} {v v' : Value} (hv : VR ρ v v') (hlt : ∀ n b k, ρ n = some (b, k) → k = far ∨ b < w.heap.size) : Good ρ H next w ⟨v, H, next, []⟩ v' ρ w :=
  ⟨hv, Post.refl' (fun n h => by simp only at h; omega) (fun n h => by simp at h) hlt, fun _ _ _ => rfl, Nat.le_refl _⟩

/-- An operation that asks nothing of the blocks, or looks at one alone. -/
theorem OpIs.still {cf : Cfg} {call : Caller} {E : Operand → Value} {H : Tr VObj} {next : Nat} {o : Oper} {out : Out} {kd : Kd} (h : OpIs P cf call E H next o out kd) (hX : XOk P cf) (hk : kd = .p ∨ ∃ n, kd = .r n) (hg : Fixes ρ cf.nb) {a : Act} {w : World}
    (hE : ∀ x ∈ o.op.operands, VR ρ (E x) (a.eval x)) (hH : ∀ n, kd = .r n → ∀ ob, H.get n = some ob → HR1 ρ n ob w) :
    out.H = H ∧ out.next = next ∧ out.dirty = [] ∧ ∃ v', VR ρ out.v v' ∧ (execOp a.eval o).run P w = .ok (.value v') w := by
  cases h with
  | p h => obtain ⟨v', h1, h2⟩ := evP_ok hg h hE; exact ⟨rfl, rfl, rfl, v', h1, h2 w⟩
  | r h => obtain ⟨-, v', h1, h2⟩ := evR_ok h hE (hH _ rfl); exact ⟨rfl, rfl, rfl, v', h1, h2⟩
  | l h => obtain ⟨-, v', h1, h2⟩ := evL_ok h hE (hH _ rfl); exact ⟨rfl, rfl, rfl, v', h1, h2⟩
  | m h =>
    obtain ⟨h1, h2⟩ := memo_ok hX hg h hE
    exact ⟨rfl, rfl, rfl, _, h1, h2 w⟩
  | xq hk' h =>
    obtain ⟨args', ha, hrun⟩ := xkOf_ok hX hk' hE
    obtain ⟨v', h1, h2⟩ := xQ_ok hX hg h ha
    exact ⟨rfl, rfl, rfl, v', h1, by rw [hrun, h2]; rfl⟩
  | xr hk' h =>
    obtain ⟨args', ha, hrun⟩ := xkOf_ok hX hk' hE
    obtain ⟨-, v', h1, h2⟩ := xR_ok hX hg h ha (hH _ rfl)
    exact ⟨rfl, rfl, rfl, v', h1, by rw [hrun, h2]; rfl⟩
  | _ => rcases hk with hk | ⟨n, hk⟩ <;> cases hk

/-- A new block: nothing is asked of the others. -/
theorem OpIs.alloc {cf : Cfg} {call : Caller} {E : Operand → Value} {H : Tr VObj} {next : Nat} {o : Oper} {out : Out} (h : OpIs P cf call E H next o out .a) (hX : XOk P cf) (hg : Fixes ρ cf.nb) {a : Act} {w : World}
    (hE : ∀ x ∈ o.op.operands, VR ρ (E x) (a.eval x)) (hlt : ∀ n b k, ρ n = some (b, k) → k = far ∨ b < w.heap.size) (hfree : ∀ n, next ≤ n → n < out.next → ρ n = none) :
    ∃ v' w' ρ', Good ρ H next w out v' ρ' w' ∧ (execOp a.eval o).run P w = .ok (.value v') w' := by
  cases h with
  | a h hn =>
    have ec : ∀ n : Nat, (next ≤ n ∧ n < next + 1) ↔ n = next := fun n => by omega
    obtain ⟨v', w', ρ', h1, h2, h3⟩ := evA_ok (H := H.get) (H' := (Tr.put _ wide H next).get) h hE (hfree next (Nat.le_refl _) (Nat.lt_succ_self _)) hlt (by rw [Tr.get_put' _ _ _ _ hn, if_pos rfl])
    refine ⟨v', w', ρ', ⟨h1, ?_, ?_, Nat.le_succ _⟩, h3⟩
    · have e2 : (fun m => m ∈ ([] : List Nat)) = fun _ => False := by funext m; simp
      simp only [ec, e2]; exact h2
    · intro n hn' _
      rw [Tr.get_put' _ _ _ _ hn, if_neg fun e => hn' ((ec n).2 e)]
  | xa hk' h hn =>
    have ec : ∀ n : Nat, (next ≤ n ∧ n < next + 1) ↔ n = next := fun n => by omega
    obtain ⟨args', ha, hrun⟩ := xkOf_ok hX hk' hE
    obtain ⟨v', w', ρ', h1, h2, h3⟩ := xA_ok (H := H.get) (H' := (Tr.put _ wide H next).get) hX (fun ρ' hs g hgn => by obtain ⟨k, hk⟩ := hg g hgn; exact ⟨k, hs _ _ hk⟩) h ha (hfree next (Nat.le_refl _) (Nat.lt_succ_self _)) hlt (by rw [Tr.get_put' _ _ _ _ hn, if_pos rfl])
    have e2 : (fun m => m ∈ ([] : List Nat)) = fun _ => False := by funext m; simp
    refine ⟨v', w', ρ', ⟨h1, by simp only [ec, e2]; exact h2, ?_, Nat.le_succ _⟩, by rw [hrun, h3]; rfl⟩
    intro n hn' _
    rw [Tr.get_put' _ _ _ _ hn, if_neg fun e => hn' ((ec n).2 e)]

theorem OpIs.alloc' {cf : Cfg} {call : Caller} {E : Operand → Value} {H : Tr VObj} {G : Nat → Option VObj} {next : Nat} {o : Oper} {out : Out} (h : OpIs P cf call E H next o out .a) (hX : XOk P cf) (hg : Fixes ρ cf.nb) {a : Act} {w : World}
    (hE : ∀ x ∈ o.op.operands, VR ρ (E x) (a.eval x)) (hlt : ∀ n b k, ρ n = some (b, k) → k = far ∨ b < w.heap.size) (hfree : ∀ n, next ≤ n → n < out.next → ρ n = none) :
    ∃ v' w' ρ', VR ρ' out.v v' ∧ Post ρ G w (fun n => next ≤ n ∧ n < out.next) (· ∈ out.dirty) ρ' out.H.get w' ∧ (execOp a.eval o).run P w = .ok (.value v') w' := by
  cases h with
  | a h hn =>
    have ec : ∀ n : Nat, (next ≤ n ∧ n < next + 1) ↔ n = next := fun n => by omega
    obtain ⟨v', w', ρ', h1, h2, h3⟩ := evA_ok (H := G) (H' := (Tr.put _ wide H next).get) h hE (hfree next (Nat.le_refl _) (Nat.lt_succ_self _)) hlt (by rw [Tr.get_put' _ _ _ _ hn, if_pos rfl])
    refine ⟨v', w', ρ', h1, ?_, h3⟩
    have e2 : (fun m => m ∈ ([] : List Nat)) = fun _ => False := by funext m; simp
    simp only [ec, e2]; exact h2
  | xa hk' h hn =>
    have ec : ∀ n : Nat, (next ≤ n ∧ n < next + 1) ↔ n = next := fun n => by omega
    obtain ⟨args', ha, hrun⟩ := xkOf_ok hX hk' hE
    obtain ⟨v', w', ρ', h1, h2, h3⟩ := xA_ok (H := G) (H' := (Tr.put _ wide H next).get) hX (fun ρ' hs g hgn => by obtain ⟨k, hk⟩ := hg g hgn; exact ⟨k, hs _ _ hk⟩) h ha (hfree next (Nat.le_refl _) (Nat.lt_succ_self _)) hlt (by rw [Tr.get_put' _ _ _ _ hn, if_pos rfl])
    have e2 : (fun m => m ∈ ([] : List Nat)) = fun _ => False := by funext m; simp
    exact ⟨v', w', ρ', h1, by simp only [ec, e2]; exact h2, by rw [hrun, h3]; rfl⟩

theorem Rel.sub {H G : Nat → Option VObj} {w : World} (h : Rel ρ H w) (hG : ∀ n, (G n).isSome → G n = H n) : Rel ρ G w where
  hr n o ho := h.hr n o (by rw [← hG n (by simp [ho])]; exact ho)
  inj n m b k k' hn hm := h.inj n m b k k' (by rw [← hG n hn]; exact hn) (by rw [← hG m hm]; exact hm)
  lt := h.lt

/-- Any operation, where all blocks are known. -/
theorem OpIs.all {cf : Cfg} {call : Caller} (hc : CallOk P cf call) {E : Operand → Value} {H : Tr VObj} {next : Nat} {o : Oper} {out : Out} {kd : Kd} (h : OpIs P cf call E H next o out kd) {ro : Option Nat} {a : Act} {w : World}
    (hd : ∀ c, o.op ≠ .defer c) (hE : ∀ x ∈ o.op.operands, VR ρ (E x) (a.eval x)) (R : Rel ρ H.get w) (hb : ∀ n, (H.get n).isSome → n < next) (hg : ∀ g, g < cf.nb → ∃ k, ρ g = some (g, k)) (hfree : ∀ n, next ≤ n → n < out.next → ρ n = none)
    {K : Act → World → Prop} {Q : Exit → Act → World → Prop} (hK : ∀ v' w' ρ', Good ρ H next w out v' ρ' w' → K (a.put o.dst v') w') : o.wpIn (FR ro) 0 P a w K Q := by
  cases h with
  | p h =>
    obtain ⟨-, -, -, v', h1, h2⟩ := OpIs.still (cf := cf) (OpIs.p (call := call) (H := H) (next := next) h) hc.1 (.inl rfl) hg hE (fun n hn => by cases hn) (w := w)
    exact wpIn_value hd h2 (hK v' w ρ (.still h1 R.lt))
  | r h =>
    obtain ⟨-, -, -, v', h1, h2⟩ := OpIs.still (cf := cf) (OpIs.r (call := call) (next := next) h) hc.1 (.inr ⟨_, rfl⟩) hg hE (fun n hn ob hob => R.hr n ob hob) (w := w)
    exact wpIn_value hd h2 (hK v' w ρ (.still h1 R.lt))
  | l h =>
    obtain ⟨-, -, -, v', h1, h2⟩ := OpIs.still (cf := cf) (OpIs.l (call := call) (next := next) h) hc.1 (.inr ⟨_, rfl⟩) hg hE (fun n hn ob hob => R.hr n ob hob) (w := w)
    exact wpIn_value hd h2 (hK v' w ρ (.still h1 R.lt))
  | a h hn =>
    obtain ⟨v', w', ρ', h1, h2⟩ := OpIs.alloc (cf := cf) (OpIs.a (call := call) (H := H) h hn) hc.1 hg hE R.lt hfree
    exact wpIn_value hd h2 (hK v' w' ρ' h1)
  | s h =>
    obtain ⟨v', w', h1, h2, h3, h4, h5, rfl⟩ := evS_ok h hE R
    exact wpIn_skipped hd h5 (hK _ w' ρ ⟨h1, h2, h3, h4⟩)
  | x h =>
    obtain ⟨v', w', ρ', h1, h2, h3, h4, h5⟩ := evX_ok h hE R hfree
    rcases h5 with h5 | ⟨h5, rfl⟩
    · exact wpIn_value hd h5 (hK v' w' ρ' ⟨h1, h2, h3, h4⟩)
    · exact wpIn_skipped hd h5 (hK _ w' ρ' ⟨h1, h2, h3, h4⟩)
  | m h =>
    obtain ⟨-, -, -, v', h1, h2⟩ := OpIs.still (cf := cf) (OpIs.m (call := call) (H := H) (next := next) h) hc.1 (.inl rfl) hg hE (fun n hn => by cases hn) (w := w)
    exact wpIn_value hd h2 (hK v' w ρ (.still h1 R.lt))
  | xq hk h =>
    obtain ⟨-, -, -, v', h1, h2⟩ := OpIs.still (cf := cf) (OpIs.xq (call := call) (H := H) (next := next) hk h) hc.1 (.inl rfl) hg hE (fun n hn => by cases hn) (w := w)
    exact wpIn_value hd h2 (hK v' w ρ (.still h1 R.lt))
  | xr hk h =>
    obtain ⟨-, -, -, v', h1, h2⟩ := OpIs.still (cf := cf) (OpIs.xr (call := call) (next := next) hk h) hc.1 (.inr ⟨_, rfl⟩) hg hE (fun n hn ob hob => R.hr n ob hob) (w := w)
    exact wpIn_value hd h2 (hK v' w ρ (.still h1 R.lt))
  | xa hk h hn =>
    obtain ⟨v', w', ρ', h1, h2⟩ := OpIs.alloc (cf := cf) (OpIs.xa (call := call) (H := H) hk h hn) hc.1 hg hE R.lt hfree
    exact wpIn_value hd h2 (hK v' w' ρ' h1)
  | xs hk h =>
    obtain ⟨args', ha, hrun⟩ := xkOf_ok hc.1 hk hE
    obtain ⟨v', w', h1, h2, h3, h4, h5⟩ := xS_ok hc.1 hg h ha R
    exact wpIn_value hd (by rw [hrun, h5]; rfl) (hK v' w' ρ ⟨h1, h2, h3, h4⟩)
  | c h hcall => exact evCallee_ok hc h hcall hE R hb hg hfree hK

/-! ### States within a function -/
inductive Df where
  | fn (g : FuncId) (args cap : List Value)
  | mark (r : Nat)

structure St where
  T : Tr Value
  df : List Df
  H : Tr VObj
  next : Nat
  dirty : List Nat

inductive DR (ρ : Ren) : List Df → List Deferred → Prop
  | nil : DR ρ [] []
  | fn {g : FuncId} {args args' cap cap' : List Value} {l : List Df} {l' : List Deferred} (h : VRs ρ args args') (hc : VRs ρ cap cap') (t : DR ρ l l') :
      DR ρ (.fn g args cap :: l) ({ target := .fn (.func g) ⟨cap'⟩, args := ⟨args'⟩ } :: l')
  | mark {r r' k : Nat} {l : List Df} {l' : List Deferred} (h : ρ r = some (r', k)) (t : DR ρ l l') : DR ρ (.mark r :: l) ({ target := .collected r', args := #[] } :: l')

theorem DR.mono {ρ ρ' : Ren} (hs : Sub ρ ρ') {l : List Df} {l' : List Deferred} (h : DR ρ l l') : DR ρ' l l' := by
  induction h with
  | nil => exact .nil
  | fn h hc _ ih => exact .fn (h.mono hs) (hc.mono hs) ih
  | mark h _ ih => exact .mark (hs _ _ h) ih

noncomputable def Tr.val (T : Tr Value) (t : Nat) : Value := (T.get t).getD undef

structure TR (ρ : Ren) (nt : Nat) (T : Nat → Value) (a : Act) : Prop where
  size : a.tmps.size = nt
  val : ∀ t, VR ρ (T t) (a.tmps.getD t undef)

theorem TR.mono {ρ ρ' : Ren} (hs : Sub ρ ρ') {nt : Nat} {T : Nat → Value} {a : Act} (h : TR ρ nt T a) : TR ρ' nt T a := ⟨h.size, fun t => (h.val t).mono hs⟩

/-- What operands may stand for in the code: constants that name no block; variables that are known. -/
def okOperand (nb : Nat) : Operand → Bool
  | .const v => flat 8 v
  | .global g => Nat.blt g nb
  | _ => true

noncomputable def env (T : Tr Value) : Operand → Value
  | .tmp t => T.val t
  | .const v => v
  | .global g => .pointer (some ⟨g, 0, none⟩)
  | .func f => .func (.func f) #[] #[]

theorem env_ok {cf : Cfg} {nt : Nat} {T : Tr Value} {a : Act} (h : TR ρ nt T.val a) (hg : ∀ g, g < cf.nb → ∃ k, ρ g = some (g, k)) {x : Operand} (hx : okOperand cf.nb x = true) : VR ρ (env T x) (a.eval x) := by
  cases x with
  | tmp t => exact h.val t
  | const v => exact VR.of_flat 8 v hx
  | global g =>
    obtain ⟨k, hk⟩ := hg g (by simpa [okOperand, Nat.blt_eq] using hx)
    exact .ptr hk
  | func f => exact .func rfl .nil .nil

theorem undef_VR {ρ : Ren} : VR ρ undef undef := .tuple .nil

/-- A temporary is written. -/
theorem TR.put {nt : Nat} {T : Nat → Value} {a : Act} (h : TR ρ nt T a) {v v' : Value} (hv : VR ρ v v') {d : Nat} (hd : d < nt) : TR ρ nt (fun t => if t = d then v else T t) (a.put (some d) v') := by
  refine ⟨by simp [Act.put, h.size], fun t => ?_⟩
  simp only [Act.put]
  by_cases e : t = d
  · subst e
    rw [if_pos rfl]
    have : t < a.tmps.size := by rw [h.size]; exact hd
    simp [Array.getD, this]
    exact hv
  · rw [if_neg e]
    have := h.val t
    simp only [Array.getD_eq_getD_getElem?] at this ⊢
    rw [Array.getElem?_setIfInBounds_ne (Ne.symm e)]
    exact this

end
end Go.Eng
