/-
  What is read of a world reads the same where all its blocks are as they were: for arguments of any of the types of a closed list.
-/
import Derived.ChangeSlices
import Derived.OpenShut
import Derived.Below
namespace Go.Proofs.YtkoaicabkgaglaaGreatDoor
open Go.ChangeShapes Go.WideShapes Go.RowKit

section
variable {H : Type} {enc : TypeId × Value → H} {P : Program}

/-- A list of types that holds what they are made of, no slice among them of elements without cells. -/
def closedTypes (P : Program) (L : List TypeId) : Bool := L.all fun t => match P.underlying t with
  | some (.slice e) => (P.cellsOf e != 0) && L.contains e
  | some (.pointer e) => L.contains e
  | some (.struct fs) => fs.toList.all fun f => L.contains f.type
  | some (.array _ e) => L.contains e
  | some (.map _ e) => L.contains e
  | _ => true

theorem mapM_keep {α β : Type} {f g : α → Option β} : ∀ {l : List α} {ys : List β}, (∀ a ∈ l, ∀ y, f a = some y → g a = some y) → l.mapM f = some ys → l.mapM g = some ys := by
  intro l
  induction l with
  | nil => intro ys _ h; simpa using h
  | cons a l ih =>
    intro ys hfg h
    rw [List.mapM_cons] at h ⊢
    cases hfa : f a with
    | none => rw [hfa] at h; cases h
    | some b =>
      rw [hfa] at h
      cases hl : l.mapM f with
      | none => rw [hl] at h; cases h
      | some bs =>
        rw [hl] at h
        rw [hfg a (by simp) b hfa, ih (fun x hx => hfg x (by simp [hx])) hl]
        exact h
theorem cell_lt {W : World} {p : Addr} {v : Value} (h : W.cell? p = some v) : p.block < W.heap.size := by
  unfold World.cell? at h
  rcases Nat.lt_or_ge p.block W.heap.size with h1 | h1
  · exact h1
  · rw [Array.getElem?_eq_none h1] at h; simp at h
theorem cells_keep {W W' : World} (hb : Below W.heap.size W W') {a : Addr} {n : Nat} {cs : List Value} (h : W.cells? 0 a n = some cs) : W'.cells? 0 a n = some cs := by
  unfold World.cells? at h ⊢
  rw [if_pos (Nat.zero_le _)] at h ⊢
  exact mapM_keep (fun i _ y hy => (hb.cell (cell_lt hy)).trans hy) h
theorem cells_lt {W : World} {a : Addr} {n : Nat} {cs : List Value} (h : W.cells? 0 a n = some cs) (hn : n ≠ 0) : a.block < W.heap.size := by
  obtain ⟨_, hl, hi⟩ := World.cells?_some h
  have h0 := hi 0 (by omega)
  rw [List.getElem?_eq_getElem (by omega)] at h0
  have := cell_lt h0
  simpa [Addr.add] using this

theorem trod_keep {W W' : World} (hb : Below W.heap.size W W') (L : List TypeId) (hL : closedTypes P L = true) :
    ∀ (fuel : Nat) (t : TypeId), t ∈ L → ∀ (cs : List Value) (x : DataW H × List MemPlace), DataW.trod enc P W 0 (fun _ => true) true fuel t cs = some x →
      DataW.trod enc P W' 0 (fun b => decide (b < W.heap.size)) true fuel t cs = some x := by
  intro fuel
  induction fuel with
  | zero => intro t _ cs x h; simp [DataW.trod] at h
  | succ n ih =>
    intro t ht cs x h
    have hc := List.all_eq_true.1 hL t ht
    unfold DataW.trod at h ⊢
    generalize P.underlying t = u at *
    split at h
    case h_6 _ e a =>
      obtain ⟨y, hy, rfl⟩ := Option.map_eq_some_iff.1 h
      obtain ⟨c, hc1, hc2⟩ := Option.bind_eq_some_iff.1 hy
      refine Option.map_eq_some_iff.2 ⟨y, Option.bind_eq_some_iff.2 ⟨c, cells_keep hb hc1, ?_⟩, rfl⟩
      exact ih e (by simpa using hc) _ _ hc2
    case h_8 _ e a len cap =>
      simp only [Bool.and_eq_true, bne_iff_ne, ne_eq] at hc
      obtain ⟨hz, he⟩ := hc
      have he' : e ∈ L := by simpa using he
      have each : ∀ (i : Nat) y, (W.cells? 0 (a.add (i * P.cellsOf e)) (P.cellsOf e)).bind (DataW.trod enc P W 0 (fun _ => true) true n e) = some y →
          (W'.cells? 0 (a.add (i * P.cellsOf e)) (P.cellsOf e)).bind (DataW.trod enc P W' 0 (fun b => decide (b < W.heap.size)) true n e) = some y := by
        intro i y hy
        obtain ⟨c, hc1, hc2⟩ := Option.bind_eq_some_iff.1 hy
        exact Option.bind_eq_some_iff.2 ⟨c, cells_keep hb hc1, ih e he' _ _ hc2⟩
      simp only at h ⊢
      split at h
      · rename_i hcond
        rw [if_pos hcond]
        obtain ⟨elems, h1, h2⟩ := Option.bind_eq_some_iff.1 h
        simp only [if_true] at h2
        obtain ⟨rest, h3, h4⟩ := Option.map_eq_some_iff.1 h2
        refine Option.bind_eq_some_iff.2 ⟨elems, mapM_keep (fun i _ y hy => each i y hy) h1, Option.map_eq_some_iff.2 ⟨rest, ?_, h4⟩⟩
        by_cases hlt : a.block < W.heap.size
        · rw [if_pos (by simpa using hlt)]
          exact mapM_keep (fun i _ y hy => each (len + i) y hy) h3
        · rw [if_neg (by simpa using hlt)]
          have hno : cap - len = 0 := by
            rcases Nat.eq_zero_or_pos (cap - len) with h0 | h0
            · exact h0
            · exfalso
              obtain ⟨m, hm⟩ : ∃ m, cap - len = m + 1 := ⟨cap - len - 1, by omega⟩
              have hr := mapM_some_get h3 0 0 (by simp [hm])
              have hlen := mapM_some_length h3
              rw [List.getElem?_eq_getElem (by simp [hm] at hlen; omega)] at hr
              obtain ⟨c, hc1, _⟩ := Option.bind_eq_some_iff.1 hr
              exact hlt (by have := cells_lt hc1 hz; rwa [block_add] at this)
          rw [hno] at h3
          simpa using h3
      · cases h
    case h_9 _ cs' fs =>
      split at h
      · rename_i hl
        rw [if_pos hl]
        obtain ⟨xs, h1, h2⟩ := Option.map_eq_some_iff.1 h
        refine Option.map_eq_some_iff.2 ⟨xs, mapM_keep (fun f hf y hy => ih f.type ?_ _ _ hy) h1, h2⟩
        have := List.all_eq_true.1 hc f hf
        simpa using this
      · cases h
    case h_10 _ cs' m e =>
      split at h
      · rename_i hl
        rw [if_pos hl]
        obtain ⟨xs, h1, h2⟩ := Option.map_eq_some_iff.1 h
        exact Option.map_eq_some_iff.2 ⟨xs, mapM_keep (fun i _ y hy => ih e (by simpa using hc) _ _ hy) h1, h2⟩
      · cases h
    case h_14 _ k e b =>
      split at h
      · rename_i es clock hes
        have hlt : b < W.heap.size := (Array.getElem?_eq_some_iff.1 hes).1
        rw [hb.block b hlt, hes]
        simp only at h ⊢
        split at h
        · rename_i hcond
          rw [if_pos hcond]
          obtain ⟨entries, h1, h2⟩ := Option.bind_eq_some_iff.1 h
          refine Option.bind_eq_some_iff.2 ⟨entries, mapM_keep (fun y _ z hz => ?_) h1, h2⟩
          obtain ⟨key, h3, h4⟩ := Option.bind_eq_some_iff.1 hz
          refine Option.bind_eq_some_iff.2 ⟨key, h3, ?_⟩
          split at h4
          · rename_i hf
            rw [if_pos hf]
            obtain ⟨q, h5, h6⟩ := Option.map_eq_some_iff.1 h4
            exact Option.map_eq_some_iff.2 ⟨q, ih e (by simpa using hc) _ _ h5, h6⟩
          · cases h4
        · cases h
      · cases h
    all_goals exact h

theorem trodAll_keep {W W' : World} (hb : Below W.heap.size W W') (L : List TypeId) (hL : closedTypes P L = true) :
    ∀ {ts : List TypeId} {vs : List Value} {ds : List (DataW H)} {ps : List MemPlace}, (∀ t ∈ ts, t ∈ L) → DataW.TrodAll enc P W 0 (fun _ => true) true ts vs ds ps →
      DataW.TrodAll enc P W' 0 (fun b => decide (b < W.heap.size)) true ts vs ds ps := by
  intro ts
  induction ts with
  | nil =>
    intro vs ds ps _ h
    obtain ⟨rfl, rfl, rfl⟩ := trodAll_nil h
    exact trodAll_mk0
  | cons t ts ih =>
    intro vs ds ps hts h
    obtain ⟨v, vs', d, ds', p, q, rfl, rfl, rfl, ⟨fuel, h1⟩, h2⟩ := trodAll_cons h
    exact trodAll_cons_mk ⟨fuel, trod_keep hb L hL fuel t (hts t (by simp)) _ _ h1⟩ (ih (fun s hs => hts s (by simp [hs])) h2)
end
end Go.Proofs.YtkoaicabkgaglaaGreatDoor
