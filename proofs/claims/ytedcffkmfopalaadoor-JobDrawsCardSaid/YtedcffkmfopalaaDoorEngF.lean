import Derived.Test.YtedcffkmfopalaaDoorEngE
namespace Go.Eng
open Go

section
variable {P : Program} {ρ : Ren}

/-- What an operation, or a call, comes to: its value, the blocks, how many names are used, and which old ones are changed or ended. -/
structure Out where
  v : Value
  H : Tr VObj
  next : Nat
  dirty : List Nat

/-- The width of names. -/
def wide : Nat := 40

theorem Tr.get_put' {α : Type} (x : Option α) (t : Tr α) (n m : Nat) (h : n < 1099511627775) : (Tr.put x wide t n).get m = if m = n then x else t.get m :=
  Tr.get_put x wide t n m (by simpa [wide] using h)

def one (v : Value) : Bool := v.oneCell'

theorem VR.one {v v' : Value} (h : VR ρ v v') (ho : v.oneCell' = true) : v'.oneCell' = true := by
  cases h <;> first | exact ho | rfl

theorem VRs.ones {l l' : List Value} (h : VRs ρ l l') (ho : l.all one = true) : ∀ v ∈ l', v.oneCell' = true := by
  induction l generalizing l' with
  | nil => cases h; simp
  | cons x l ih =>
    cases h with
    | cons hx ht =>
      simp only [List.all_cons, Bool.and_eq_true] at ho
      intro v hv
      cases hv with
      | head => exact hx.one ho.1
      | tail _ hv => exact ih ht ho.2 v hv

section defs
variable (P)
/-- Stores, and what else changes one block in its place. -/
noncomputable def evS (E : Operand → Value) (H : Tr VObj) (next : Nat) (o : Oper) : Option Out :=
  match o.op with
  | .store t a x =>
    match E a with
    | .pointer (some ⟨b, of, none⟩) =>
      match H.get b, P.info? t with
      | some (.row cs e lo fr), some i =>
        if fr.1 = 0 ∧ fr.2 = 0 ∧ (E x).cells.toList.length = i.size ∧ of + i.size ≤ cs.length ∧ (E x).cells.toList.all one = true ∧ b < 1099511627775 then
          some ⟨.tuple #[], Tr.put (some (.row (cs.take of ++ (E x).cells.toList ++ cs.drop (of + i.size)) e lo fr)) wide H b, next, [b]⟩
        else none
      | _, _ => none
    | _ => none
  | _ => none
end defs

theorem World.setRow_same {w : World} (g : Nat) (cs : Array Value) : (w.setRow g cs).os = w.os ∧ (w.setRow g cs).tape = w.tape ∧ (w.setRow g cs).output = w.output := ⟨rfl, rfl, rfl⟩

/-- One block is written in its place. -/
theorem Post.write {H H' : Nat → Option VObj} {w : World} {n : Nat} {o : VObj} (hlt : ∀ n b k, ρ n = some (b, k) → k = far ∨ b < w.heap.size) (hl : (H n).isSome) {b k : Nat} (hb : ρ n = some (b, k))
    {w' : World} (hw : (∀ j, j ≠ b → w'.heap[j]? = w.heap[j]?) ∧ w'.heap.size = w.heap.size ∧ w'.os = w.os ∧ w'.tape = w.tape ∧ w'.output = w.output) (hH : H' n = some o) (h : HR1 ρ n o w') :
    Post ρ H w (fun _ => False) (· = n) ρ H' w' where
  ren _ _ := rfl
  lt m b k hm := by rw [hw.2.1]; exact hlt m b k hm
  hr m o' hm ho := by rcases hm with hm | rfl; exact hm.elim; rw [hH] at ho; injection ho with ho; exact ho ▸ h
  new m b' k' hm _ hb' := by rcases hm with hm | rfl; exact hm.elim; exact .inr ⟨m, k', rfl, hb'⟩
  inj m m' b k k' hm hm' _ _ _ _ := by
    rcases hm with hm | rfl
    · exact hm.elim
    · rcases hm' with hm' | rfl
      · exact hm'.elim
      · rfl
  frame j hj hd := hw.1 j fun e => hd n k rfl (e ▸ hb)
  live d hd := hd ▸ hl
  free m hm := hm.elim
  os := hw.2.2.1
  tape := hw.2.2.2.1
  output := hw.2.2.2.2
  size := Nat.le_of_eq hw.2.1.symm

theorem List.take_splice {α : Type} (c : List α) (n of : Nat) (vs : List α) (h : of + vs.length ≤ n) (hn : n ≤ c.length) :
    (c.take of ++ vs ++ c.drop (of + vs.length)).take n = (c.take n).take of ++ vs ++ (c.take n).drop (of + vs.length) := by
  have e1 : (c.take of).length = of := by simp; omega
  have e2 : (c.take n).take of = c.take of := by rw [List.take_take, Nat.min_eq_left (by omega)]
  have e3 : (c.take of ++ vs).length = of + vs.length := by simp; omega
  rw [List.take_append, e3, e2, List.take_of_length_le (by omega), List.drop_take]

theorem HR1.splice {n b k of : Nat} {cs vs vs' : List Value} {e : TypeId} {lo : Option Nat} {w : World} {c' : Array Value} (hb : ρ n = some (b, k))
    (hc : w.heap[b]? = some (.cells c' e (0, 0))) (hv : VRs ρ cs (c'.toList.take cs.length)) (hl : cs.length ≤ c'.size)
    (hlo : match lo with | none => c'.size = cs.length | some z => c'.size = k * z ∧ (0, 0) = (0, 0) ∧ k ≤ maxLen)
    (hvs : VRs ρ vs vs') (hof : of + vs.length ≤ cs.length) :
    HR1 ρ n (.row (cs.take of ++ vs ++ cs.drop (of + vs.length)) e lo (0, 0)) (w.setRow b (c'.toList.take of ++ vs' ++ c'.toList.drop (of + vs'.length)).toArray) := by
  have hlen : (cs.take of ++ vs ++ cs.drop (of + vs.length)).length = cs.length := by simp; omega
  have hlen' := hvs.length
  refine ⟨b, k, hb, _, setRow_heap w b c' _ e _ hc, ?_, ?_, ?_⟩
  · rw [hlen]
    rw [List.take_splice c'.toList cs.length of vs' (by omega) (by simpa using hl), hlen']
    exact ((hv.take of).append hvs).append (hv.drop _)
  · rw [hlen]; simp; omega
  · have : (c'.toList.take of ++ vs' ++ c'.toList.drop (of + vs'.length)).toArray.size = c'.size := by simp; omega
    rw [hlen, this]
    exact hlo

theorem evS_ok {E E' : Operand → Value} {H : Tr VObj} {next : Nat} {o : Oper} {out : Out} {w : World} (h : evS P E H next o = some out) (hE : ∀ x ∈ o.op.operands, VR ρ (E x) (E' x))
    (R : Rel ρ H.get w) :
    ∃ v' w', VR ρ out.v v' ∧ Post ρ H.get w (fun n => next ≤ n ∧ n < out.next) (· ∈ out.dirty) ρ out.H.get w' ∧
      (∀ n, ¬ (next ≤ n ∧ n < out.next) → n ∉ out.dirty → out.H.get n = H.get n) ∧ next ≤ out.next ∧ ((execOp E' o).run P w = .ok .skip w' ∧ v' = undef) := by
  obtain ⟨dst, op, ty, pos, after, guard⟩ := o
  unfold evS at h
  cases op with
  | store t a x =>
    have ha := hE a (by simp [Op.operands]); have hx := hE x (by simp [Op.operands])
    simp only at h
    split at h
    · rename_i b of hv
      rw [hv] at ha
      split at h
      · rename_i cs e lo fr i hg hi
        split at h
        · rename_i hc
          obtain ⟨f1, f2, hsz, hof, hone, hb40⟩ := hc
          obtain ⟨fr1, fr2⟩ := fr
          simp only at f1 f2
          subst f1 f2
          simp only [Option.some.injEq] at h
          subst h
          have hr := R.hr b _ hg
          obtain ⟨b', k, h1, c', h2, h3, h4, h5⟩ := hr
          obtain ⟨b'', k'', h6, he⟩ := ha.ptr_inv
          simp only at h6 he
          rw [h1] at h6
          injection h6 with h6; injection h6 with h6 _; subst h6
          have hcs := hx.cells
          have hlen := hcs.length
          have hst := run_storeCells_at P b' of e (E' x).cells.toList 0 c' w h2 (by omega) (hcs.ones hone)
          simp only [Nat.add_zero] at hst
          refine ⟨undef, w.setRow b' (c'.toList.take of ++ (E' x).cells.toList ++ c'.toList.drop (of + (E' x).cells.toList.length)).toArray, .tuple .nil, ?_, ?_, Nat.le_refl _, ?_, rfl⟩
          rotate_left
          · intro n _ hn
            simp only [List.mem_singleton] at hn
            rw [Tr.get_put' _ _ _ _ hb40, if_neg hn]
          · simp only [execOp, Instr.storeAt, he, Instr.sureAddr, Sem.run_bind, Sem.run_pure, Result.andThen_ok, storeVar, sizeOf, typeInfo, run_program, hi]
            rw [if_neg (by have := hlen.trans hsz; simpa using this), hst]
            rfl
          · have hsp := HR1.splice (of := of) (k := k) h1 h2 h3 h4 h5 hcs (by omega)
            rw [hsz] at hsp
            have hpost := Post.write (ρ := ρ) (H := H.get) (H' := (Tr.put (some (VObj.row (cs.take of ++ (E x).cells.toList ++ cs.drop (of + i.size)) e lo (0, 0))) wide H b).get)
              (n := b) (w' := w.setRow b' (c'.toList.take of ++ (E' x).cells.toList ++ c'.toList.drop (of + (E' x).cells.toList.length)).toArray)
              R.lt (by simp [hg]) h1 ⟨fun j hj => setRow_other w b' j _ hj, by simp, rfl, rfl, rfl⟩ (by rw [Tr.get_put' _ _ _ _ hb40, if_pos rfl]) hsp
            have e1 : (fun n => next ≤ n ∧ n < next) = fun _ => False := by funext n; simp only [eq_iff_iff, iff_false]; omega
            have e2 : (fun n => n ∈ [b]) = fun n => n = b := by funext n; simp
            simp only [e1, e2]
            exact hpost
        · cases h
      · cases h
    · cases h
  | _ => simp at h

end
end Go.Eng
