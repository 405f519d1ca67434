import Derived.Test.YtedcffkmfopalaaDoorEngA
import Derived.Laws.Tables
import Derived.Stop.Asserts
namespace Go.Eng
open Go

section
variable (P : Program)

/-! ### Operations that leave the world alone -/
def isAggB (t : TypeId) : Bool :=
  match P.underlying t with
  | some (.struct _) | some (.array _ _) => true
  | _ => false

def partV (t : TypeId) (cs : List Value) (off : Nat) : Option Value :=
  match P.underlying t with
  | none => none
  | some _ =>
    if isAggB P t then (P.info? t).map fun i => .agg ⟨(cs.drop off).take i.size⟩
    else cs[off]?

def bnd (v : Value) (y : Nat) : Option Nat :=
  match v with
  | .int _ i => if 0 ≤ i ∧ i ≤ y then some i.toNat else none
  | _ => none

def bounds (len cap : Nat) (low high max : Option Value) : Option (Nat × Nat × Nat) :=
  match (match max with | some v => bnd v cap | none => some cap) with
  | none => none
  | some m =>
    match (match high, max with | some v, _ => bnd v m | none, none => some len | none, some _ => none) with
    | none => none
    | some h =>
      match (match low with | some v => bnd v h | none => some 0) with
      | none => none
      | some l => some (l, h, m)

def sliceV (t : TypeId) (x : Value) (lo hi mx : Option Value) : Option Value :=
  match P.underlying t, x with
  | some (.array n elem), .pointer (some ⟨b, o, none⟩) =>
    match P.info? elem, bounds n n lo hi mx with
    | some i, some (l, h, m) => if m - l = far then none else some (.slice (some (if m = l then ⟨b, o, none⟩ else (⟨b, o, none⟩ : Addr).add (l * i.size))) (h - l) (m - l))
    | _, _ => none
  | some (.slice elem), .slice (some ⟨b, o, none⟩) len cap =>
    match P.info? elem with
    | none => none
    | some i =>
      if cap = far then
        match mx, bounds len len lo hi mx with
        | none, some (l, h, _) =>
          if b = far then (if l = 0 ∧ h = 0 ∧ len = 0 ∧ o = 0 then some x else none)
          else if i.size = 0 then none
          else if l = 0 then some (.slice (some ⟨b, o, none⟩) h far)
          else if l < len then some (.slice (some ⟨b, o + l * i.size, none⟩) (h - l) far)
          else some (.slice (some ⟨far, 0, none⟩) 0 far)
        | some _, some (l, h, m) => if b = far then none else if m - l = far then none else some (.slice (some (if m = l then ⟨b, o, none⟩ else (⟨b, o, none⟩ : Addr).add (l * i.size))) (h - l) (m - l))
        | _, none => none
      else
        match bounds len cap lo hi mx with
        | some (l, h, m) => if m - l = far then none else some (.slice (some (if m = l then ⟨b, o, none⟩ else (⟨b, o, none⟩ : Addr).add (l * i.size))) (h - l) (m - l))
        | none => none
  | _, _ => none

def nilEq : TypeDesc → Value → Value → Option Bool
  | .pointer _, .pointer none, .pointer (some _) => some false
  | .pointer _, .pointer (some _), .pointer none => some false
  | .interface _, .nilIface, .iface _ _ => some false
  | .interface _, .iface _ _, .nilIface => some false
  | .slice _, .slice none _ _, .slice (some _) _ _ => some false
  | .slice _, .slice (some _) _ _, .slice none _ _ => some false
  | .map _ _, .map none, .map (some _) => some false
  | .map _ _, .map (some _), .map none => some false
  | .func _ _ _, .nilFunc, .func _ _ _ => some false
  | .func _ _ _, .func _ _ _, .nilFunc => some false
  | _, _, _ => none

def noSel : Op → Bool
  | .select _ _ => false
  | _ => true

def operandsFlat (nb : Nat) (E : Operand → Value) (o : Oper) : Bool := o.op.operands.toList.all fun x => fixd nb 8 (E x)

def structV (E : Operand → Value) : Op → Option Value
  | .move x => some (E x)
  | .assign x => some (E x)
  | .pick c a b =>
    match E c with
    | .bool t => some (if t then E a else E b)
    | _ => none
  | .extract t ix =>
    match E t with
    | .tuple ⟨vs⟩ => vs[ix]?
    | _ => none
  | .makeInterface t x =>
    match P.underlying t with
    | some (.interface _) => none
    | some _ => some (.iface t (E x))
    | none => none
  | .makeFunc fn first captured => if notYield fn then some (.func fn ⟨first.toList.map E⟩ ⟨captured.toList.map E⟩) else none
  | .nilCheck x =>
    match E x with
    | .pointer (some _) => some (E x)
    | .iface _ _ => some (E x)
    | .func (.func _) _ _ => some (E x)
    | _ => none
  | .field t x f =>
    match P.underlying t, E x with
    | some (.struct fs), .agg ⟨cs⟩ =>
      match fs[f]? with
      | some f => partV P f.type cs f.offset
      | none => none
    | _, _ => none
  | .fieldAddr t x f =>
    match P.underlying t, E x with
    | some (.struct fs), .pointer (some a) =>
      match fs[f]? with
      | some f =>
        match P.info? f.type with
        | some i => if i.size = 0 then none else some (.pointer (some (a.add f.offset)))
        | none => none
      | none => none
    | _, _ => none
  | .indexAddr t x ix =>
    match P.underlying t, E x, E ix with
    | some (.array n elem), .pointer (some a), .int _ j =>
      match P.info? elem with
      | some i => if 0 ≤ j ∧ j < n then some (.pointer (some (a.add (j.toNat * i.size)))) else none
      | none => none
    | some (.slice elem), .slice (some a) n _, .int _ j =>
      match P.info? elem with
      | some i => if 0 ≤ j ∧ j < n then some (.pointer (some (a.add (j.toNat * i.size)))) else none
      | none => none
    | _, _, _ => none
  | .slice t x lo hi mx => sliceV P t (E x) (lo.map E) (hi.map E) (mx.map E)
  | .typeAssert x _ asserted ok =>
    match E x with
    | .iface t v =>
      match P.underlying asserted with
      | some (.interface want) =>
        match P.info? t with
        | some i =>
          match (lacking want i.methods).isEmpty with
          | true => some (if ok then .tuple ⟨[.iface t v, .bool true]⟩ else .iface t v)
          | false =>
            if ok then
              match P.info? asserted with
              | some j => match j.zero with
                | some z => if flat 8 z then some (.tuple ⟨[z, .bool false]⟩) else none
                | none => none
              | none => none
            else none
        | none => none
      | some _ =>
        if t = asserted then some (if ok then .tuple ⟨[v, .bool true]⟩ else v)
        else if ok then
          match P.info? asserted with
          | some j => match j.zero with
            | some z => if flat 8 z then some (.tuple ⟨[z, .bool false]⟩) else none
            | none => none
          | none => none
        else none
      | none => none
    | _ => none
  | .call { callee := .builtin .len, args := ⟨[x]⟩, argTypes := ⟨[t]⟩ } =>
    match P.underlying t, E x with
    | some (.slice _), .slice (some _) n _ => some (goInt n)
    | some (.array n _), _ => some (goInt n)
    | _, _ => none
  | .call { callee := .builtin .cap, args := ⟨[x]⟩, argTypes := ⟨[t]⟩ } =>
    match P.underlying t, E x with
    | some (.slice _), .slice (some _) _ c => if c = far then none else some (goInt c)
    | _, _ => none
  | .build t parts =>
    match (P.info? t).bind (·.zero) with
    | some z => if flat 8 (.agg z.cells) then (P.built t (parts.toList.map fun p => (p.1, E p.2))).map .agg else none
    | none => none
  | .index t x ix =>
    match P.underlying t, E x, E ix with
    | some (.array n e), .agg ⟨cs⟩, .int _ j =>
      match P.info? e with
      | some i => if 0 ≤ j ∧ j < n then partV P e cs (j.toNat * i.size) else none
      | none => none
    | _, _, _ => none
  | .binOp .eql t x y _ =>
    match P.underlying t with
    | some d => (nilEq d (E x) (E y)).map .bool
    | none => none
  | .binOp .neq t x y _ =>
    match P.underlying t with
    | some d => (nilEq d (E x) (E y)).map fun b => .bool (!b)
    | none => none
  | _ => none

/-- Whole numbers of one kind. -/
def fastInt (E : Operand → Value) : Op → Option Value
  | .binOp op t x y _ =>
    match E x, E y with
    | .int k a, .int k' b =>
      if k = k' then
        match op with
        | .add | .sub | .mul => quiet P (do eqGuard op t x y (.int k a) (.int k b); Op.intArith op k a b)
        | .eql | .neq | .lss | .leq | .gtr | .geq => quiet P (do eqGuard op t x y (.int k a) (.int k b); Op.intCmp op a b)
        | _ => none
      else none
    | _, _ => none
  | _ => none

def evP (nb : Nat) (E : Operand → Value) (o : Oper) : Option Value :=
  match fastInt P E o.op with
  | some v => if fixd nb 8 v then some v else none
  | none =>
  match structV P E o.op with
  | some v => some v
  | none =>
    if operandsFlat nb E o && noSel o.op then
      match quiet P (execOp E o) with
      | some (.value v) => if fixd nb 8 v then some v else none
      | _ => none
    else none

end

section
variable {P : Program} {ρ : Ren}

theorem run_isAgg {t : TypeId} {d : TypeDesc} (h : P.underlying t = some d) (w : World) : (isAgg t).run P w = .ok (isAggB P t) w := by
  cases d <;> simp [isAgg, isAggB, run_underlying h, h]

theorem partV_ok {t : TypeId} {cs cs' : List Value} {off : Nat} {v : Value} (h : partV P t cs off = some v) (hv : VRs ρ cs cs') :
    ∃ v', VR ρ v v' ∧ ∀ w, (part t ⟨cs'⟩ off).run P w = .ok v' w := by
  unfold partV at h
  cases hu : P.underlying t with
  | none => simp [hu] at h
  | some d =>
    simp only [hu] at h
    cases ha : isAggB P t with
    | true =>
      simp only [ha, if_true, Option.map_eq_some_iff] at h
      obtain ⟨i, hi, rfl⟩ := h
      refine ⟨_, .agg ((hv.drop off).take i.size), fun w => ?_⟩
      simp [part, run_isAgg hu, ha, sizeOf, typeInfo, hi, List.extract_eq_take_drop]
    | false =>
      simp only [ha, Bool.false_eq_true, if_false] at h
      obtain ⟨v', h1, h2⟩ := hv.get h
      refine ⟨v', h2, fun w => ?_⟩
      simp [part, run_isAgg hu, ha, h1]

theorem bnd_run {v : Value} {y k : Nat} (h : bnd v y = some k) (c : BoundsCode) (w : World) : (Instr.sliceBound v y c).run P w = .ok k w := by
  unfold bnd at h
  cases v <;> simp at h
  obtain ⟨h1, rfl⟩ := h
  simp [Instr.sliceBound, asIntOf, h1]

theorem bnd_mono {v : Value} {y z k : Nat} (h : bnd v y = some k) (hz : y ≤ z) : bnd v z = some k := by
  unfold bnd at *
  cases v <;> simp at h ⊢
  obtain ⟨h1, h2⟩ := h
  exact ⟨⟨h1.1, by omega⟩, h2⟩

theorem bnd_le {v : Value} {y k : Nat} (h : bnd v y = some k) : k ≤ y := by
  unfold bnd at h
  cases v <;> simp at h
  omega

theorem bounds_run {s : Bool} {len cap l h m : Nat} {lo hi mx : Option Value} (e : bounds len cap lo hi mx = some (l, h, m)) (w : World) :
    (Instr.sliceBounds s len cap lo hi mx).run P w = .ok (l, h, m) w := by
  unfold bounds at e
  unfold Instr.sliceBounds
  cases mx with
  | none =>
    simp only at e
    cases hi with
    | none =>
      simp only at e
      cases lo with
      | none => simp at e; obtain ⟨rfl, rfl, rfl⟩ := e; simp
      | some x =>
        cases hb : bnd x len with
        | none => simp [hb] at e
        | some q => simp [hb] at e; obtain ⟨rfl, rfl, rfl⟩ := e; simp [bnd_run hb]
    | some y =>
      cases hb : bnd y cap with
      | none => simp [hb] at e
      | some r =>
        cases lo with
        | none => simp [hb] at e; obtain ⟨rfl, rfl, rfl⟩ := e; simp [bnd_run hb]
        | some x =>
          cases hx : bnd x r with
          | none => simp [hb, hx] at e
          | some q => simp [hb, hx] at e; obtain ⟨rfl, rfl, rfl⟩ := e; simp [bnd_run hb, bnd_run hx]
  | some z =>
    cases hz : bnd z cap with
    | none => simp [hz] at e
    | some k =>
      cases hi with
      | none => simp [hz] at e
      | some y =>
        cases hb : bnd y k with
        | none => simp [hz, hb] at e
        | some r =>
          cases lo with
          | none => simp [hz, hb] at e; obtain ⟨rfl, rfl, rfl⟩ := e; simp [bnd_run hz, bnd_run hb]
          | some x =>
            cases hx : bnd x r with
            | none => simp [hz, hb, hx] at e
            | some q => simp [hz, hb, hx] at e; obtain ⟨rfl, rfl, rfl⟩ := e; simp [bnd_run hz, bnd_run hb, bnd_run hx]

theorem bounds_none {len c l h m : Nat} {lo hi : Option Value} (e : bounds len len lo hi none = some (l, h, m)) (hc : len ≤ c) : bounds len c lo hi none = some (l, h, c) := by
  unfold bounds at *
  simp only at e ⊢
  cases hi with
  | none =>
    simp only at e ⊢
    cases lo with
    | none => simp at e ⊢; exact ⟨e.1, e.2.1⟩
    | some x =>
      cases hb : bnd x len with
      | none => simp [hb] at e
      | some q => simp [hb] at e ⊢; exact ⟨e.1, e.2.1⟩
  | some y =>
    cases hb : bnd y len with
    | none => simp [hb] at e
    | some r =>
      cases lo with
      | none => simp [hb, bnd_mono hb hc] at e ⊢; exact ⟨e.1, e.2.1⟩
      | some x =>
        cases hx : bnd x r with
        | none => simp [hb, hx] at e
        | some q => simp [hb, bnd_mono hb hc, hx] at e ⊢; exact ⟨e.1, e.2.1⟩

theorem bounds_some {len c l h m : Nat} {lo hi : Option Value} {z : Value} (e : bounds len len lo hi (some z) = some (l, h, m)) (hc : len ≤ c) : bounds len c lo hi (some z) = some (l, h, m) := by
  unfold bounds at *
  simp only at e ⊢
  cases hz : bnd z len with
  | none => simp [hz] at e
  | some k => simp only [hz, bnd_mono hz hc] at e ⊢; exact e

theorem bounds_le {len cap l h m : Nat} {lo hi mx : Option Value} (e : bounds len cap lo hi mx = some (l, h, m)) (hc : len ≤ cap) : l ≤ h ∧ h ≤ m := by
  unfold bounds at e
  cases mx with
  | none =>
    simp only at e
    cases hi with
    | none =>
      cases lo with
      | none => simp at e; omega
      | some x =>
        cases hb : bnd x len with
        | none => simp [hb] at e
        | some q => have := bnd_le hb; simp [hb] at e; omega
    | some y =>
      cases hb : bnd y cap with
      | none => simp [hb] at e
      | some r =>
        have := bnd_le hb
        cases lo with
        | none => simp [hb] at e; omega
        | some x =>
          cases hx : bnd x r with
          | none => simp [hb, hx] at e
          | some q => have := bnd_le hx; simp [hb, hx] at e; omega
  | some z =>
    cases hz : bnd z cap with
    | none => simp [hz] at e
    | some k =>
      cases hi with
      | none => simp [hz] at e
      | some y =>
        cases hb : bnd y k with
        | none => simp [hz, hb] at e
        | some r =>
          have := bnd_le hb
          cases lo with
          | none => simp [hz, hb] at e; omega
          | some x =>
            cases hx : bnd x r with
            | none => simp [hz, hb, hx] at e
            | some q => have := bnd_le hx; simp [hz, hb, hx] at e; omega

theorem VR.add {a a' : Addr} (h : VR ρ (.pointer (some a)) (.pointer (some a'))) (n : Nat) : VR ρ (.pointer (some (a.add n))) (.pointer (some (a'.add n))) := by
  cases h with
  | atom h => simp [Eng.atom] at h
  | ptr h => unfold Addr.add; split <;> exact .ptr h

end
end Go.Eng
