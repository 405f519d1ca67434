import Derived.Test.YtedcffkmfopalaaDoorEngU
import Derived.Laws.Externs
namespace Go.Eng
open Go

/-- The blocks that are known, out of a list. -/
noncomputable def mkH : List (Nat × VObj) → Tr VObj
  | [] => .nil
  | (n, o) :: l => Tr.put (some o) wide (mkH l) n

theorem mkH_get : ∀ {L : List (Nat × VObj)} {n : Nat} {o : VObj}, (∀ p ∈ L, p.1 < 1099511627775) → (mkH L).get n = some o → (n, o) ∈ L
  | [], n, o, _, h => by cases h
  | (m, p) :: L, n, o, hk, h => by
    simp only [mkH, Tr.get_put' _ _ _ _ (hk (m, p) (by simp))] at h
    split at h
    · rename_i e
      simp only [Option.some.injEq] at h
      subst e h
      simp
    · exact List.mem_cons_of_mem _ (mkH_get (fun q hq => hk q (List.mem_cons_of_mem _ hq)) h)

/-- It came to true, and nothing old is changed. -/
def okOut : Option Out → Bool
  | some ⟨.bool b, _, _, []⟩ => b
  | _ => false

/-- **A law's call of a function without parameters that tells true, by what was reckoned.** -/
theorem calls_true {P : Program} {cf : Cfg} {lf d : Nat} (hX : XOk P cf) (hm : P.follows .mixedOrders = true) {f : FuncId} {L : List (Nat × VObj)} {next : Nat} (he : okOut (evCall P cf lf d (.fn f) [] (mkH L) next) = true)
    (hk : ∀ p ∈ L, p.1 < next ∧ p.1 < 1099511627775) {ρ : Ren} {w : World} (hfix : ∀ g, g < cf.nb → ∃ k, ρ g = some (g, k)) (hfree : ∀ n, next ≤ n → ρ n = none)
    (hlt : ∀ n b k, ρ n = some (b, k) → k = far ∨ b < w.heap.size) (hr : ∀ p ∈ L, HR1 ρ p.1 p.2 w)
    (hinj : ∀ p ∈ L, ∀ q ∈ L, ∀ b k k', ρ p.1 = some (b, k) → ρ q.1 = some (b, k') → p.1 = q.1) :
    Calls P f #[] w fun e w' => e = .returned (.bool true) ∧ RowKit.Below w.heap.size w w' := by
  have hget : ∀ n, ((mkH L).get n).isSome → ∃ p ∈ L, p.1 = n ∧ (mkH L).get n = some p.2 := fun n hn => by
    obtain ⟨o, ho⟩ := Option.isSome_iff_exists.1 hn
    exact ⟨(n, o), mkH_get (fun p hp => (hk p hp).2) ho, rfl, ho⟩
  unfold okOut at he
  split at he
  · rename_i b H n hev
    subst he
    refine calls_of_ev hX hm hev rfl rfl rfl (ρ := ρ) (args' := []) ⟨fun n o ho => ?_, fun n m b k k' hn hm' h1 h2 => ?_, hlt⟩ (fun n hn => ?_) hfix hfree .nil
    · exact hr _ (mkH_get (fun p hp => (hk p hp).2) ho)
    · obtain ⟨p, hp, rfl, -⟩ := hget n hn
      obtain ⟨q, hq, rfl, -⟩ := hget m hm'
      exact hinj p hp q hq b k k' h1 h2
    · obtain ⟨p, hp, rfl, -⟩ := hget n hn
      exact (hk p hp).1
  · cases he

/-- The extern functions, each by the four facts that the library asks. -/
theorem xs_ok {P : Program} {f : FuncId} {k : XK} {fn : Func} (hf : P.funcs[f]? = some fn) (hn : (fn.name == "runtime.NumGoroutine") = false) (hb : fn.body.isNone = true) (hx : Extern.findNext fn = none) (he : Extern.find fn = some k.fn)
    (args : Array Value) (w : World) : (callFunc f args).run P w = ((k.fn args).run P w).andThen fun v w' => .ok (.value v) w' :=
  run_callFunc_extern hf hn hb hx he args w

/-- The functions without body, out of a list. -/
def xsOf (l : List (FuncId × XK)) (f : FuncId) : Option XK := (l.find? fun p => Nat.beq p.1 f).map (·.2)

theorem xsOf_ok {P : Program} {l : List (FuncId × XK)} (h : ∀ p ∈ l, ∀ (args : Array Value) (w : World), (callFunc p.1 args).run P w = ((p.2.fn args).run P w).andThen fun v w' => .ok (.value v) w') {f : FuncId} {k : XK} (hf : xsOf l f = some k)
    (args : Array Value) (w : World) : (callFunc f args).run P w = ((k.fn args).run P w).andThen fun v w' => .ok (.value v) w' := by
  obtain ⟨p, hp, rfl⟩ := Option.map_eq_some_iff.1 hf
  have := Nat.eq_of_beq_eq_true (List.find?_some (p := fun p : FuncId × XK => Nat.beq p.1 f) hp)
  subst this
  exact h p (List.mem_of_find?_eq_some hp) args w

/-- The block of a variable that is read alone. -/
theorem HR1.laid {ρ : Ren} {g k nb : Nat} {v : Value} {w : World} (hg : Fixes ρ nb) (hv : fixd nb 8 v = true) (hn : ρ g = some (g, k)) (hE : w.cell? ⟨g, 0, none⟩ = some v) : HR1 ρ g (.ro [v] false) w := by
  unfold World.cell? at hE
  split at hE
  · rename_i c e fr hh
    simp only [Option.isSome_none, Bool.false_eq_true, if_false] at hE
    refine ⟨g, k, hn, c, e, fr, hh, ?_, ?_, fun h => by cases h⟩
    · have hv : VRs ρ [v] [v] := .cons (VR.of_fixd hg 8 v hv) .nil
      obtain ⟨l⟩ := c
      cases l with
      | nil => cases hE
      | cons x l =>
        obtain rfl : x = v := by simpa using hE
        simpa using hv
    · exact (Array.getElem?_eq_some_iff.1 hE).1
  · cases hE

/-- The names of the blocks that have their own numbers. -/
def renG (nb : Nat) : Ren := fun n => if n < nb then some (n, far) else none

theorem renG_fix (nb : Nat) : Fixes (renG nb) nb := fun g hg => ⟨far, by simp only [renG]; rw [if_pos hg]⟩

/-- The same, where all that is known is one variable. -/
theorem calls_true_one {P : Program} {cf : Cfg} {lf d g : Nat} {v : Value} (hX : XOk P cf) (hm : P.follows .mixedOrders = true) {f : FuncId} {next : Nat} (he : okOut (evCall P cf lf d (.fn f) [] (mkH [(g, .ro [v] false)]) next) = true)
    (hn : cf.nb ≤ next) (hgn : g < cf.nb) (hg40 : g < 1099511627775) (hv : fixd cf.nb 8 v = true) {w : World} (hE : w.cell? ⟨g, 0, none⟩ = some v) :
    Calls P f #[] w fun e w' => e = .returned (.bool true) ∧ RowKit.Below w.heap.size w w' := by
  refine calls_true hX hm he (ρ := renG cf.nb) (by intro p hp; simp only [List.mem_singleton] at hp; subst hp; exact ⟨by show g < next; omega, hg40⟩) (renG_fix _)
    (fun n h => by simp only [renG]; rw [if_neg (by omega)]) (fun n b k h => ?_) (fun p hp => ?_) (fun p hp q hq _ _ _ _ _ => ?_)
  · simp only [renG] at h
    split at h
    · simp only [Option.some.injEq, Prod.mk.injEq] at h; exact .inl h.2.symm
    · cases h
  · simp only [List.mem_singleton] at hp
    subst hp
    exact HR1.laid (renG_fix _) hv (by simp only [renG]; rw [if_pos hgn]) hE
  · simp only [List.mem_singleton] at hp hq
    rw [hp, hq]

end Go.Eng
