/-
  Plain laws on the beginnings of a path.
-/
import Derived.Test.YtajleipangnfbaaDoorPathLaws
namespace Go.Proofs.YtajleipangnfbaaDoor

theorem sp_take : ∀ (r : List UInt8) (j : Nat) (st : Option Nat) (i a b : Nat), (∀ s, st = some s → s < j) → (sp j st r)[i]? = some (a, b) → sp j st (r.take (b - j)) = (sp j st r).take (i + 1) := by
  intro r
  induction r with
  | nil =>
    intro j st i a b hst h
    cases st with
    | none => simp [sp] at h
    | some s =>
      cases i with
      | zero => simp [sp] at h ⊢
      | succ i => simp [sp] at h
  | cons c r ih =>
    intro j st i a b hst h
    have hbd := sp_bd (c :: r) j st hst (a, b) (List.mem_of_getElem? h)
    simp only at hbd
    have hstep : ∀ st', (∀ s, st' = some s → s < j + 1) → (sp (j + 1) st' r)[i]? = some (a, b) → j + 1 ≤ b → (sp (j + 1) st' (r.take (b - (j + 1)))) = (sp (j + 1) st' r).take (i + 1) :=
      fun st' hs h' _ => ih (j + 1) st' i a b hs h'
    cases st with
    | none =>
      simp only [Option.getD_none] at hbd
      have e : (c :: r).take (b - j) = c :: r.take (b - (j + 1)) := by
        rw [show b - j = (b - (j + 1)) + 1 from by omega, List.take_succ_cons]
      rw [e]
      rw [sp] at h
      rw [sp, sp]
      split
      · rename_i hc; rw [if_pos hc] at h; exact ih (j + 1) none i a b (by simp) h
      · rename_i hc; rw [if_neg hc] at h; exact ih (j + 1) (some j) i a b (by simp) h
    | some s =>
      have hs := hst s rfl
      by_cases hc : c = 47
      · subst hc
        rw [sp, if_pos rfl] at h
        cases i with
        | zero =>
          simp at h
          obtain ⟨rfl, rfl⟩ := h
          simp [sp]
        | succ i =>
          simp only [List.getElem?_cons_succ] at h
          have hb2 := sp_bd r (j + 1) none (by simp) (a, b) (List.mem_of_getElem? h)
          simp at hb2
          rw [show b - j = (b - (j + 1)) + 1 from by omega, List.take_succ_cons, sp, if_pos rfl, sp, if_pos rfl, List.take_succ_cons, ih (j + 1) none i a b (by simp) h]
      · rw [sp, if_neg hc] at h
        have hb2 := sp_bd r (j + 1) (some s) (by simp; omega) (a, b) (List.mem_of_getElem? h)
        simp at hb2
        have hbj : j < b := by
          rw [sp_some] at h
          cases i with
          | zero => simp at h; omega
          | succ i =>
            simp only [List.getElem?_cons_succ] at h
            have hb3 := sp_bd _ _ none (by simp) (a, b) (List.mem_of_getElem? h)
            simp at hb3; omega
        rw [show b - j = (b - (j + 1)) + 1 from by omega, List.take_succ_cons, sp, if_neg hc, sp, if_neg hc, ih (j + 1) (some s) i a b (by simp; omega) h]

/-- A beginning has the parts up to its own, begins as the path, and does not end with a slash. -/
structure UpAt (l u : List UInt8) (k : Nat) : Prop where
  parts : parts u = (parts l).take (k + 1)
  pre : Lib.hasPrefix u [47] = Lib.hasPrefix l [47]
  suf : Lib.hasSuffix u [47] = false
  eq : u = l.take u.length
  len : u.length ≤ l.length

theorem up_at {l : List UInt8} {k : Nat} (hk : k < (ups l).length) : UpAt l ((ups l).getD k []) k := by
  have hs : k < (spans l).length := by simpa [ups] using hk
  obtain ⟨a, b, hab⟩ : ∃ a b, (spans l)[k] = (a, b) := ⟨_, _, rfl⟩
  have hget : (spans l)[k]? = some (a, b) := by rw [List.getElem?_eq_getElem hs, hab]
  have hbd := spans_bd l (a, b) (List.mem_of_getElem? hget)
  simp only at hbd
  have hu : (ups l).getD k [] = l.take b := by simp [ups, List.getD, hget]
  have hsp : spans (l.take b) = (spans l).take (k + 1) := by
    have := sp_take l 0 none k a b (by simp) hget
    simpa [spans] using this
  have hlast : (spans (l.take b)).getLast? = some (a, b) := by
    rw [hsp, List.take_succ_eq_append_getElem hs, hab]; simp
  obtain ⟨⟨p1, p2, p3, p4⟩, p5⟩ := spans_last hlast
  simp only at p1 p2 p3 p4 p5
  have hlen : (l.take b).length = b := by simp; omega
  have hne : l.take b ≠ [] := by intro e; rw [e] at hlen; simp at hlen; omega
  rw [hu]
  refine ⟨?_, ?_, ?_, by rw [hlen], by omega⟩
  · unfold parts
    rw [hsp]
    refine Eq.trans ?_ List.map_take
    apply List.map_congr_left
    intro q hq
    have hq2 : q ∈ spans (l.take b) := by rw [hsp]; exact hq
    have := spans_bd _ q hq2
    unfold cutS
    rw [List.take_take, Nat.min_eq_left (by omega)]
  · have := hasPrefix_app (b := l.drop b) hne
    rw [List.take_append_drop] at this; exact this.symm
  · rw [suf_eq _ hne, beq_eq_false_iff_ne]
    intro hc
    apply p4 (b - 1) (by omega) (by omega)
    rw [List.getLast_eq_getElem] at hc
    simp only [hlen] at hc
    rw [List.getElem?_eq_getElem (by rw [hlen]; omega), hc]
end Go.Proofs.YtajleipangnfbaaDoor
