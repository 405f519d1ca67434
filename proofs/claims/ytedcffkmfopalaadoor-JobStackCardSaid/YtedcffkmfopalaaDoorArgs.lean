/-
  Arguments that are slices, read as lists of cells, whatever their elements are.
-/
import Derived.Test.YtedcffkmfopalaaDoorKeep
import Derived.Test.YtedcffkmfopalaaDoorMem
import Derived.Deep.Slices
import Derived.Deep.Fields
namespace Go.Proofs.YtedcffkmfopalaaDoor
open Go.ChangeShapes Go.WideShapes Go.RowKit
open Go.Deep (open_slice choose_lt oneCellFields hone_of)

theorem flatten_at {size : Nat} : ∀ {L : List (List Value)} {j : Nat} {u : Value}, (∀ cs ∈ L, cs.length = size) → L.flatten[j]? = some u → ∃ i r cs, j = i * size + r ∧ L[i]? = some cs ∧ cs[r]? = some u := by
  intro L
  induction L with
  | nil => intro j u _ h; simp at h
  | cons a L ih =>
    intro j u hl h
    rw [List.flatten_cons] at h
    have ha := hl a (by simp)
    rcases Nat.lt_or_ge j a.length with h1 | h1
    · rw [List.getElem?_append_left h1] at h
      exact ⟨0, j, a, by omega, rfl, h⟩
    · rw [List.getElem?_append_right h1] at h
      obtain ⟨i, r, cs, e, h2, h3⟩ := ih (fun cs hc => hl cs (by simp [hc])) h
      exact ⟨i + 1, r, cs, by rw [Nat.add_mul]; omega, by simpa using h2, h3⟩
theorem flatten_len {size : Nat} : ∀ {L : List (List Value)}, (∀ cs ∈ L, cs.length = size) → L.flatten.length = L.length * size := by
  intro L
  induction L with
  | nil => intro _; simp
  | cons a L ih =>
    intro h
    rw [List.flatten_cons, List.length_append, ih (fun cs hc => h cs (by simp [hc])), h a (by simp), List.length_cons, Nat.add_mul]
    omega
theorem of_map {α β : Type} {g : β → α} : ∀ {L : List α}, (∀ x ∈ L, ∃ y, x = g y) → ∃ l : List β, L = l.map g := by
  intro L
  induction L with
  | nil => intro _; exact ⟨[], rfl⟩
  | cons a L ih =>
    intro h
    obtain ⟨y, rfl⟩ := h a (by simp)
    obtain ⟨l, rfl⟩ := ih fun x hx => h x (by simp [hx])
    exact ⟨y :: l, rfl⟩

theorem single_flat {α : Type} (g : α → Value) (l : List α) : (l.map fun x => [g x]).flatten = l.map g := by
  induction l with
  | nil => rfl
  | cons a l ih => rw [List.map_cons, List.flatten_cons, ih]; rfl
section
variable {H : Type} {enc : TypeId × Value → H} {P : Program} {W : World}
theorem open_rd {r : Reach} {b0 size : Nat} {t e : TypeId} {v : Value} {d : DataW H} {ps : List MemPlace} (ht : P.underlying t = some (.slice e)) (hz : P.cellsOf e = size) (hpos : 0 < size)
    (hval : Value.okWide P W r b0 t v) (hd : DataW.Trod enc P W 0 (fun _ => true) true t v d ps) :
    ∃ L : List (List Value), Rd W.heap.size size v L.length L.flatten W ∧ ∀ cs ∈ L, cs.length = size ∧ ∃ n x, DataW.trod enc P W 0 (fun _ => true) true n e cs = some x := by
  obtain ⟨a0, len, cap, rfl⟩ := okWide_slice ht hval
  obtain ⟨fuel, hf⟩ := hd
  rcases open_slice ht hf with ⟨hcs, _⟩ | ⟨a, len', cap', m, n, D, Pl, hcs, _, hl, hm, hmm, _, hi⟩
  · simp [Value.cells] at hcs
    obtain ⟨rfl, rfl, rfl⟩ := hcs
    exact ⟨[], Rd.none0 _ _ _, by simp⟩
  · simp [Value.cells] at hcs
    obtain ⟨rfl, rfl, rfl⟩ := hcs
    simp only [if_true] at hmm
    rw [hz] at hi
    obtain ⟨f, hfi⟩ := choose_lt hi
    have hcell : ∀ i, i < len → (f i).length = size ∧ ∀ j u, (f i)[j]? = some u → W.cell? ((a.add (i * size)).add j) = some u := by
      intro i hil
      obtain ⟨hc, _⟩ := hfi i (by omega)
      obtain ⟨_, hcl, hat⟩ := World.cells?_some hc
      refine ⟨hcl, fun j u hu => ?_⟩
      have hj : j < size := by have := (List.getElem?_eq_some_iff.1 hu).1; omega
      rw [hat j hj, hu]
    have hall : ∀ cs ∈ (List.range len).map f, cs.length = size := by
      intro cs hc
      obtain ⟨i, hi, rfl⟩ := List.mem_map.1 hc
      exact (hcell i (List.mem_range.1 hi)).1
    refine ⟨(List.range len).map f, ?_, fun cs hc => ?_⟩
    · rw [List.length_map, List.length_range]
      refine ⟨some a, cap, rfl, hl, hm, fun e => (by cases e), by rw [flatten_len hall]; simp, fun hn => ?_⟩
      have h0 := hcell 0 hn
      have h00 := h0.2 0 _ (List.getElem?_eq_getElem (by omega))
      obtain ⟨b, off, spot⟩ := a
      have hspot : spot = none := by simpa [Addr.add] using World.cell?_spot h00
      subst hspot
      refine ⟨b, off, rfl, ?_, fun j u hu => ?_⟩
      · have := cell_lt h00
        rwa [block_add, block_add] at this
      · obtain ⟨i, r, cs, e, h2, h3⟩ := flatten_at hall hu
        have hil : i < len := by
          have := (List.getElem?_eq_some_iff.1 h2).1
          simpa using this
        have : cs = f i := by
          rw [List.getElem?_map, List.getElem?_range hil] at h2
          exact (Option.some.inj h2).symm
        subst this
        have := (hcell i hil).2 r u h3
        rw [add_plain, add_plain, Nat.add_assoc, ← e] at this
        exact this
    · obtain ⟨i, hi, rfl⟩ := List.mem_map.1 hc
      exact ⟨hall _ hc, n, _, (hfi i (by have := List.mem_range.1 hi; omega)).2⟩
/-- Texts. -/
theorem open_rdS {r : Reach} {b0 : Nat} {t e : TypeId} {v : Value} {d : DataW H} {ps : List MemPlace} (ht : P.underlying t = some (.slice e)) (he : P.underlying e = some .string) (hz : P.cellsOf e = 1)
    (hval : Value.okWide P W r b0 t v) (hd : DataW.Trod enc P W 0 (fun _ => true) true t v d ps) : ∃ l : List Str, Rd W.heap.size 1 v l.length (strs l) W := by
  obtain ⟨L, h1, h2⟩ := open_rd ht hz (by decide) hval hd
  obtain ⟨l, rfl⟩ := of_map (g := fun s : Str => [Value.string (bs s)]) (L := L) fun cs hc => by
    obtain ⟨_, n, x, hx⟩ := h2 cs hc
    obtain ⟨s, rfl, _⟩ := DataW.trod_string he hx
    exact ⟨s.data.toList, by rw [← bs_of]⟩
  refine ⟨l, ?_⟩
  rw [List.length_map] at h1
  rwa [single_flat] at h1
theorem u8_of {z : Int} (h : (Lit.int .u8 z).wf = true) : ∃ c : UInt8, z = (c.toNat : Int) := by
  have hb : 0 ≤ z ∧ z ≤ 255 := by simpa [Lit.wf, IntKind.min, IntKind.max, IntKind.signed, IntKind.bits] using h
  refine ⟨UInt8.ofNat z.toNat, ?_⟩
  have : (UInt8.ofNat z.toNat).toNat = z.toNat := by simp; omega
  rw [this]; omega
/-- Bytes in a row of cells. -/
def bytes (l : List UInt8) : List Value := l.map fun c => .int .u8 c.toNat
theorem open_rdB {r : Reach} {b0 : Nat} {t e : TypeId} {v : Value} {d : DataW H} {ps : List MemPlace} (ht : P.underlying t = some (.slice e)) (he : P.underlying e = some (.int .u8)) (hz : P.cellsOf e = 1)
    (hval : Value.okWide P W r b0 t v) (hd : DataW.Trod enc P W 0 (fun _ => true) true t v d ps) : ∃ l : List UInt8, Rd W.heap.size 1 v l.length (bytes l) W := by
  obtain ⟨L, h1, h2⟩ := open_rd ht hz (by decide) hval hd
  obtain ⟨l, rfl⟩ := of_map (g := fun c : UInt8 => [Value.int .u8 c.toNat]) (L := L) fun cs hc => by
    obtain ⟨_, n, x, hx⟩ := h2 cs hc
    obtain ⟨z, rfl, _, hw⟩ := DataW.trod_int he hx
    obtain ⟨c, rfl⟩ := u8_of hw
    exact ⟨c, rfl⟩
  refine ⟨l, ?_⟩
  rw [List.length_map] at h1
  rwa [single_flat] at h1
end
end Go.Proofs.YtedcffkmfopalaaDoor
