/-
  Small laws for walks: a region that draws its order, by an invariant over what has come up; such a region in a round of a loop over an iterator. Slices that read as lists of cells; texts as lists of bytes; what keeps them. Plain facts on paths as lists of bytes: the spans of their parts, and the parts themselves.
  route: partEnd, spans and its iterator.
  route: Split.
  route: Ups.
  route: Check.
  route: Base, Dir and what they share.
  route: Base, Dir, Join.
  Plain facts on paths, byte by byte.
  The reference's Split.
  The reference's Texts.
  The reference's Check and Base.
  Plain facts on the last part of a path.
  The reference's Ups, bare, Dir and Join.
  The reference's Dir and Join.
  The reference's Dir, whole, and Join.
  Plain laws on the parts of paths.
  The walk of RouteJoins. slices.Grow and slices.Concat at slices of texts. Bits of numbers, and modes as texts: plain facts.
  mode: digit, May, Mask; the document's May and Mask.
-/
import Derived.RangeFuncNested
import Derived.RangeFuncBound
import Derived.RangeFuncCalls
import Derived.RangeFuncLeaves
import Derived.RangeFuncBox
import Derived.Shelf.Abstract
import Derived.Shelf.RegionOpen
import Derived.WalkKit
import Derived.OwnWalkIn
import Derived.TacticsInMore
import Derived.LoopNIn
import Derived.LoopIn
import Derived.Lib.Hide
import Derived.Outline
import Derived.Deep.QuietTactic
import Derived.Deep.AppendLies
import Derived.BigQuiet
import Derived.Lib.Strings
import Derived.WalkSmall
import Derived.Laws.AppendOwn
import Derived.Laws.OwnMore
import Derived.Laws.AppendOwnNone
import Derived.WideShapes
import Derived.Shelf.Small.Strs
import Derived.Shelf.Strings.Search1
import Derived.Shelf.Strings.Prefix
import Derived.Lib.TrimByte
import Derived.Lib.Bytealg
import Derived.Lib.QuietBelow
import Derived.Deep.DrawnRows
import Derived.Laws.Cover1
import Derived.WalkMore
import Derived.Shelf.Spec.SlicesGrow
import Derived.StillTailTactics
import Derived.Laws.BitsLemmas
import Derived.Test.YtpmhmippoefcfaaGreatDoorProg
import Derived.Test.YtpmhmippoefcfaaGreatDoorShelf
namespace Go.Proofs.YtpmhmippoefcfaaGreatDoor
/-- Lists and arrays that are written out, and a slot that is set. -/
theorem pt {α : Type} : (∀ (l : List α) (i : Nat) (h : i < l.toArray.size), l.toArray[i] = l[i]'(by simpa using h)) ∧ (∀ (a : α) (l : List α) (i : Nat) (h : i + 1 < (a :: l).length), (a :: l)[i + 1] = l[i]'(Nat.lt_of_succ_lt_succ h)) ∧ (∀ (a : α) (l : List α) (h : 0 < (a :: l).length), (a :: l)[0] = a)
    ∧ (∀ (l : List α) (i : Nat) (a : α), l.toArray.setIfInBounds i a = (l.set i a).toArray) ∧ (∀ (a b : α) (l : List α) (i : Nat), (a :: l).set (i + 1) b = a :: l.set i b) ∧ ∀ (a b : α) (l : List α), (a :: l).set 0 b = b :: l :=
  ⟨fun _ _ _ => List.getElem_toArray _, fun _ _ _ _ => rfl, fun _ _ _ => rfl, fun _ _ _ => List.setIfInBounds_toArray .., fun _ _ _ _ => rfl, fun _ _ _ => rfl⟩
end Go.Proofs.YtpmhmippoefcfaaGreatDoor
namespace Go.Proofs.YtpmhmippoefcfaaGreatDoor
open Go.RowKit
theorem wide_fn (f : FuncId) : Fence.wide.fn f = True := rfl
theorem wide_depth : Fence.wide.depth = none := rfl
theorem data_len (s : ByteArray) : s.data.toList.length = s.size := by rw [Array.length_toList]; rfl
theorem take_drop (s : ByteArray) (k : Nat) : List.take (s.size - k) (List.drop k s.data.toList) = List.drop k s.data.toList := by
  apply List.take_of_length_le; rw [List.length_drop, data_len]; exact Nat.le_refl _
theorem ret_int {k : IntKind} {a b : Int} (h : a = b) : Ending.returned (.int k a) = .returned (.int k b) := by rw [h]
theorem count_set_lt (l : List Bool) (i : Nat) (h : l[i]? = some false) : (l.set i true).count false < l.count false := by
  induction l generalizing i with
  | nil => simp at h
  | cons b r ih =>
    cases i with
    | zero => simp at h; subst h; simp
    | succ i => simp at h; have := ih i h; simp [List.count_cons]; omega
theorem wpAny_inv {P : Program} {ops : Array Oper} {Q : Exit → Act → World → Prop} (I : Array Bool → Act → World → Prop)
    (hstep : ∀ (listed : Array Bool) (i : Nat) (o : Oper) (a : Act) (w : World) (K : Act → World → Prop), listed.size = ops.size → i ∈ Region.ready .any ops listed → ops[i]? = some o → I listed a w →
      (∀ a' w', I (listed.setIfInBounds i true) a' w' → K a' w') → if Region.wanted o (yielded ops a.tmps) = true then o.wp P a w K Q else K (a.put o.dst undef) w)
    (hdone : ∀ (listed : Array Bool) (a : Act) (w : World), listed.size = ops.size → I listed a w → Region.ready .any ops listed = [] → Q .normal a w) :
    ∀ (fuel : Nat) (listed : Array Bool) (a : Act) (w : World), listed.size = ops.size → listed.toList.count false ≤ fuel → I listed a w → wpAny P .any ops Q fuel listed a w := by
  intro fuel
  induction fuel with
  | zero =>
    intro listed a w hs hc hI
    have hr : Region.ready .any ops listed = [] := by
      apply List.eq_nil_iff_forall_not_mem.2
      intro i hi
      obtain ⟨h1, o, ho, _⟩ := mem_ready.1 hi
      have hlt : i < listed.size := by rw [hs]; exact (Array.getElem?_eq_some_iff.1 ho).1
      have h2 : listed.toList[i]? = some false := by
        rw [Array.getElem?_toList, Array.getElem?_eq_getElem hlt]
        simpa [Array.getD, hlt] using h1
      have := List.count_pos_iff.2 (List.mem_of_getElem? h2)
      omega
    exact ⟨hr, hdone _ _ _ hs hI hr⟩
  | succ fuel ih =>
    intro listed a w hs hc hI
    refine ⟨fun hr => hdone _ _ _ hs hI hr, fun i hi => ?_⟩
    obtain ⟨h1, o, ho, _⟩ := mem_ready.1 hi
    have hlt : i < listed.size := by rw [hs]; exact (Array.getElem?_eq_some_iff.1 ho).1
    have h2 : listed.toList[i]? = some false := by
      rw [Array.getElem?_toList, Array.getElem?_eq_getElem hlt]
      simpa [Array.getD, hlt] using h1
    have h3 := count_set_lt _ _ h2
    refine wpOp_step ho fun K hK => hstep listed i o a w K hs hi ho hI fun a' w' hI' => hK a' w' (ih _ a' w' (by simp [hs]) ?_ hI')
    rw [Array.toList_setIfInBounds]
    omega
/-- Where no operation waits for a later one, nothing may come up only when all have. -/
theorem ready_all {ops : Array Oper} {listed : Array Bool} (hb : ((List.range ops.size).all fun i => match ops[i]? with | some o => o.after.all fun e => decide (e.on < i) | none => true) = true)
    (hs : listed.size = ops.size) (hr : Region.ready .any ops listed = []) : ∀ i, i < ops.size → listed.getD i false = true := by
  intro i
  induction i using Nat.strongRecOn with
  | ind i ih =>
    intro hi
    have hg : ∀ j, j < ops.size → listed.getD j true = listed.getD j false := fun j hj => by
      rw [← hs] at hj; simp [Array.getD, hj]
    cases hc : listed.getD i false with
    | true => rfl
    | false =>
      have ho : ops[i]? = some ops[i] := Array.getElem?_eq_getElem hi
      have h1 := List.all_eq_true.1 hb i (List.mem_range.2 hi)
      rw [ho] at h1
      simp only [Array.all_eq_true'] at h1
      have : i ∈ Region.ready .any ops listed := mem_ready.2 ⟨by rw [hg i hi]; exact hc, ops[i], ho, fun e he _ => by
        have h2 : e.on < i := of_decide_eq_true (h1 e he)
        exact ih e.on h2 (Nat.lt_trans h2 hi)⟩
      rw [hr] at this; cases this
/-- What holds of a list of operations at the wide fence holds of it in a round. -/
theorem opsIn_round {P : Program} {ops : Array Oper} {Q : Exit → Act → World → Prop} (l n : Nat) (hd : (ops.toList.all fun o => match o.op with | .defer _ => false | _ => true) = true) (hno : ¬ LetsOut Q) :
    ∀ (L : List Nat) (a : Act) (w : World), wpOps P ops Q L a w → wpOpsIn (Fence.wide.inRound l) n P ops Q L a w := by
  intro L
  induction L with
  | nil => intro a w h; exact h
  | cons i rest ih =>
    intro a w h
    unfold wpOps at h
    unfold wpOpsIn
    cases ho : ops[i]? with
    | none => rw [ho] at h; exact ih _ _ h
    | some o =>
      rw [ho] at h
      simp only at h ⊢
      have hnd : ∀ c, o.op ≠ .defer c := by
        intro c hc
        have := List.all_eq_true.1 hd o (List.mem_of_getElem? (by rw [Array.getElem?_toList]; exact ho))
        rw [hc] at this; cases this
      split
      · rename_i hw
        rw [if_pos hw] at h
        rcases h with h | ⟨_, h⟩
        · unfold Oper.wp at h
          refine ⟨fun _ _ => trivial, ?_⟩
          rw [Oper.semAt_eq _ _ _ hnd]
          generalize (execOp a.eval o).run P w = r at *
          cases r with
          | ok x w' =>
            cases x with
            | value v => exact ih _ _ h
            | skip => exact ih _ _ h
            | defer d => exact ih _ _ h
            | enter f args =>
              refine ⟨fun hh => (by cases hh), ?_⟩
              refine CallsIn.mono (CallsIn.inRound l (callsIn_wide.2 h)) fun e w'' he => ?_
              cases e with
              | returned v => exact ih _ _ he
              | panicked c => exact he
              | outgrown => exact he
            | row row args =>
              refine ⟨fun hh => (by cases hh), ?_⟩
              intro c cs _
              obtain ⟨v, w1, hr, hs⟩ := h c cs
              exact ⟨v, w1, ih _ _ hr, stepsIn_wide.2 hs⟩
            | _ => exact h.elim
          | halt x w' => cases x <;> first | exact h | exact h.elim
        · exact (hno h).elim
      · rename_i hw
        rw [if_neg hw] at h
        exact ⟨fun _ _ => trivial, ih _ _ h⟩
theorem region_round {P : Program} {ops : Array Oper} {Q : Exit → Act → World → Prop} {l n id : Nat} {a : Act} {w : World} (hm : P.follows .mixedOrders = true)
    (hd : (ops.toList.all fun o => match o.op with | .defer _ => false | _ => true) = true) (hno : ¬ LetsOut Q)
    (h : wpAny P .any ops Q ops.size (Array.replicate ops.size false) a w.drew) : (Code.region id ops true).wpIn (Fence.wide.inRound l) n P Q a w :=
  wpIn_region_draw fun t => by
    simp only [Region.schedule, hm, Bool.true_or, if_true]
    exact opsIn_round l n hd hno _ _ _ (wpAny_sound ops.size t _ a _ h)
theorem region_round_inv {P : Program} {ops : Array Oper} {Q : Exit → Act → World → Prop} {l n id : Nat} {a : Act} {w : World} (I : Array Bool → Act → World → Prop) (hm : P.follows .mixedOrders = true)
    (hd : (ops.toList.all fun o => match o.op with | .defer _ => false | _ => true) = true) (hno : ¬ LetsOut Q)
    (h0 : I (Array.replicate ops.size false) a w.drew)
    (hstep : ∀ (listed : Array Bool) (i : Nat) (o : Oper) (a : Act) (w : World) (K : Act → World → Prop), listed.size = ops.size → i ∈ Region.ready .any ops listed → ops[i]? = some o → I listed a w →
      (∀ a' w', I (listed.setIfInBounds i true) a' w' → K a' w') → if Region.wanted o (yielded ops a.tmps) = true then o.wp P a w K Q else K (a.put o.dst undef) w)
    (hdone : ∀ (listed : Array Bool) (a : Act) (w : World), listed.size = ops.size → I listed a w → Region.ready .any ops listed = [] → Q .normal a w) :
    (Code.region id ops true).wpIn (Fence.wide.inRound l) n P Q a w :=
  region_round hm hd hno (wpAny_inv I hstep hdone _ _ _ _ (by simp) (by simp) h0)
/-- A piece of a text, as a list. -/
theorem extract_eq (s : ByteArray) (x y : Nat) : s.extract x y = ⟨((s.data.toList.take y).drop x).toArray⟩ := by
  have h : (s.extract x y).data.toList = (s.data.toList.take y).drop x := by rw [Lib.extract_data, List.drop_take]
  rw [← h]
theorem ownsRow_drewN {W : World} {b : Nat} {e : TypeId} {z : Nat} {v : Value} {n : Nat} {xs : List Value} (h : W.ownsRow b e z v n xs) (k : Nat) : (W.drewN k).ownsRow b e z v n xs := h
theorem bf {a b : Bool} (h : a = true → b = true) (hb : b = false) : a = false := by cases a <;> simp_all
/-- What a round of a loop over the parts keeps: one box. -/
def KeepsBox (B : Nat) (W W' : World) : Prop := W'.cell? ⟨B, 0, none⟩ = W.cell? ⟨B, 0, none⟩
theorem keepsBox_t {B : Nat} {X Y Z : World} (h : KeepsBox B X Y) (k : KeepsBox B Y Z) : KeepsBox B X Z := Eq.trans k h
theorem keepsBox_b {B h : Nat} (hB : B < h) (W : World) (l : Nat) (o o' : Obj) (hl : h ≤ l) (_ : W.heap[l]? = some o) (_ : o.isCells = false) (_ : o.isWalk = false) : KeepsBox B W (W.putObj l o') := by
  unfold KeepsBox World.cell?
  rw [World.putObj_heap_other (by simp; omega)]
end Go.Proofs.YtpmhmippoefcfaaGreatDoor
namespace Go.Proofs.YtpmhmippoefcfaaGreatDoor
open Go.RowKit
open Go.WideShapes (add_plain)
abbrev Str := List UInt8
/-- A text, out of its bytes. -/
abbrev bs (l : Str) : ByteArray := ⟨l.toArray⟩
theorem bs_list (l : Str) : (bs l).data.toList = l := rfl
theorem bs_of (s : ByteArray) : s = bs s.data.toList := by apply ByteArray.ext; simp
theorem bs_size (l : Str) : (bs l).size = l.length := by simp [ByteArray.size]
theorem bs_get (l : Str) (k : Nat) (h : k < (bs l).size) : (bs l)[k]'h = l[k]'(by rwa [bs_size] at h) := by
  show l.toArray[k]'_ = _
  rw [List.getElem_toArray]
theorem ret_bool {a b : Bool} (h : a = b) : Ending.returned (.bool a) = .returned (.bool b) := by rw [h]
theorem drewN_two (w : World) (a b : Nat) : (w.drewN a).drewN b = w.drewN (a + b) := by simp [World.drewN, Nat.add_assoc]
/-- A slice of n elements of `size` cells each, out of blocks below B, that reads as a list of cells. -/
def Rd (B size : Nat) (v : Value) (n : Nat) (xs : List Value) (W : World) : Prop :=
  ∃ ao cap, v = .slice ao n cap ∧ n ≤ cap ∧ cap ≤ maxLen ∧ (ao = Option.none → cap = 0) ∧ xs.length = n * size ∧ (0 < n → ∃ b off, ao = some ⟨b, off, none⟩ ∧ b < B ∧ ∀ j u, xs[j]? = some u → W.cell? ⟨b, off + j, none⟩ = some u)
theorem Rd.keep {B size n : Nat} {v : Value} {xs : List Value} {W W' : World} (h : Rd B size v n xs W) (hk : ∀ b o, b < B → W'.cell? ⟨b, o, none⟩ = W.cell? ⟨b, o, none⟩) : Rd B size v n xs W' := by
  obtain ⟨ao, cap, rfl, hc, hm, hz, hl, h⟩ := h
  refine ⟨ao, cap, rfl, hc, hm, hz, hl, fun hn => ?_⟩
  obtain ⟨b, off, rfl, hb, h⟩ := h hn
  exact ⟨b, off, rfl, hb, fun j u hu => (hk _ _ hb).trans (h j u hu)⟩
theorem Rd.below {B size n : Nat} {v : Value} {xs : List Value} {W W' : World} (h : Rd B size v n xs W) (hb : Below B W W') : Rd B size v n xs W' :=
  h.keep fun b o hlt => hb.cell (p := ⟨b, o, none⟩) hlt
theorem Rd.mono {B B' size n : Nat} {v : Value} {xs : List Value} {W : World} (h : Rd B size v n xs W) (hb : B ≤ B') : Rd B' size v n xs W := by
  obtain ⟨ao, cap, rfl, hc, hm, hz, hl, h⟩ := h
  refine ⟨ao, cap, rfl, hc, hm, hz, hl, fun hn => ?_⟩
  obtain ⟨b, off, rfl, hlt, h⟩ := h hn
  exact ⟨b, off, rfl, by omega, h⟩
theorem Rd.drewN {B size n : Nat} {v : Value} {xs : List Value} {W : World} (h : Rd B size v n xs W) (k : Nat) : Rd B size v n xs (W.drewN k) := h
theorem Rd.len {B size n : Nat} {v : Value} {xs : List Value} {W : World} (h : Rd B size v n xs W) : xs.length = n * size := by
  obtain ⟨ao, cap, rfl, hc, hm, hz, hl, h⟩ := h
  exact hl
theorem Rd.none0 (B size : Nat) (W : World) : Rd B size (.slice none 0 0) 0 [] W :=
  ⟨_, 0, rfl, Nat.zero_le _, Nat.zero_le _, fun _ => rfl, by simp, fun h => absurd h (by omega)⟩
theorem addr_add0 (g k : Nat) : (⟨g, 0, none⟩ : Addr).add k = ⟨g, k, none⟩ := by
  cases k with
  | zero => rfl
  | succ k => simp [Addr.add]
theorem Rd.own {B base size n : Nat} {e : TypeId} {v : Value} {xs : List Value} {W : World} (h : W.ownsRow base e size v n xs) (hB : W.heap.size ≤ B) : Rd B size v n xs W := by
  rcases id h.2 with ⟨rfl, h0⟩ | ⟨g, cap, cur, rfl, hb, hh, hn, hm, _⟩
  · subst h0
    have := h.1
    obtain rfl := List.eq_nil_of_length_eq_zero (by simpa using this)
    exact Rd.none0 _ _ _
  · refine ⟨_, cap, rfl, hn, hm, fun e => (by cases e), h.1, fun _ => ⟨g, 0, rfl, Nat.lt_of_lt_of_le (h.lt g rfl).2 hB, fun j u hu => ?_⟩⟩
    have := h.cells (g := g) rfl j u hu
    rw [addr_add0] at this
    rwa [Nat.zero_add]
/-- Where s[k:] begins. -/
def cutA (ao : Option Addr) (k cap : Nat) : Option Addr := if cap = k then ao else ao.map (·.add k)
theorem Rd.tail {B n : Nat} {ao : Option Addr} {cap : Nat} {xs : List Value} {W : World} (h : Rd B 1 (.slice ao n cap) n xs W) (k : Nat) (hk : k ≤ n) : Rd B 1 (.slice (cutA ao k cap) (n - k) (cap - k)) (n - k) (xs.drop k) W := by
  obtain ⟨ao', cap', e, hc, hm, hz, hl, h⟩ := h
  injection e with e1 _ e2
  subst e1
  subst e2
  refine ⟨_, _, rfl, by omega, by omega, fun e => ?_, by rw [List.length_drop]; omega, fun hn => ?_⟩
  · have : ao = Option.none := by
      unfold cutA at e
      split at e
      · exact e
      · cases ao with
        | none => rfl
        | some a => cases e
    have := hz this
    omega
  obtain ⟨b, off, rfl, hb, h⟩ := h (by omega)
  refine ⟨b, off + k, ?_, hb, fun j u hu => ?_⟩
  · unfold cutA
    rw [if_neg (by omega)]
    simp [add_plain]
  · rw [Nat.add_assoc]
    exact h _ u (by rw [← hu, List.getElem?_drop])
/-- Of a slice that is not empty: where it lies. -/
theorem Rd.at {B size n : Nat} {v : Value} {xs : List Value} {W : World} (h : Rd B size v n xs W) (hn : 0 < n) :
    ∃ b off cap, v = .slice (some ⟨b, off, none⟩) n cap ∧ n ≤ cap ∧ cap ≤ maxLen ∧ b < B ∧ xs.length = n * size ∧ ∀ j u, xs[j]? = some u → W.cell? ⟨b, off + j, none⟩ = some u := by
  obtain ⟨ao, cap, rfl, hc, hm, hz, hl, h⟩ := h
  obtain ⟨b, off, rfl, hb, h⟩ := h hn
  exact ⟨b, off, cap, rfl, hc, hm, hb, hl, h⟩
theorem Rd.form {B size n : Nat} {v : Value} {xs : List Value} {W : World} (h : Rd B size v n xs W) : ∃ ao cap, v = .slice ao n cap ∧ n ≤ cap ∧ cap ≤ maxLen := by
  obtain ⟨ao, cap, rfl, hc, hm, _⟩ := h
  exact ⟨ao, cap, rfl, hc, hm⟩
theorem run_cut {P : Program} (t e : TypeId) (ao : Option Addr) (n cap k : Nat) (x : Int) (w : World) (ht : P.underlying t = some (.slice e)) (hz : (sizeOf e).run P w = .ok 1 w) (hx : x = k) (hk : k ≤ n) :
    (Instr.slice t (.slice ao n cap) (some (.int .i64 x)) none none).run P w = .ok (.slice (cutA ao k cap) (n - k) (cap - k)) w := by
  subst hx
  have he : P.elem t = e := by simp [Program.elem, ht]
  rw [run_slice_l w t ao n cap (by rw [he]; exact ht) .i64 k (by omega) (by omega), he, hz]
  simp [Result.andThen, sliced, cutA]
theorem ownsRow_below {W W' : World} {base B : Nat} {e : TypeId} {size n : Nat} {v : Value} {xs : List Value} (h : W.ownsRow base e size v n xs) (hb : Below B W W') (hB : W.heap.size ≤ B) : W'.ownsRow base e size v n xs := by
  refine ⟨h.1, h.2.imp id ?_⟩
  rintro ⟨g, cap, cur, h1, h2, h3, h4⟩
  exact ⟨g, cap, cur, h1, h2, (hb.block g (by have := (Array.getElem?_eq_some_iff.1 h3).1; omega)).trans h3, h4⟩
theorem own_form {W : World} {base : Nat} {e : TypeId} {size : Nat} {v : Value} {n : Nat} {xs : List Value} (h : W.ownsRow base e size v n xs) : ∃ ao cap, v = .slice ao n cap := by
  rcases h.2 with ⟨rfl, h0⟩ | ⟨g, cap, cur, rfl, _⟩
  · exact ⟨Option.none, 0, by rw [h0]⟩
  · exact ⟨_, cap, rfl⟩
/-- An append, to a row of the call's own, of whatever slice reads as a list of cells. -/
theorem wpList_append_rd {P : Program} {w : World} {ops : Array Oper} {rest : List Oper} {o : Oper} {a : Act} {Q : Exit → Act → World → Prop} (hw : Region.wanted o (yielded ops a.tmps) = true) (s x : Operand) (t : TypeId)
    (ho : o.op = .call { callee := .builtin .append, args := #[s, x], argTypes := #[t, t] })
    (base : Nat) (e : TypeId) (i : TypeInfo) (z : Value) (size bytes : Nat) (ht : P.underlying t = some (.slice e)) (hi : P.info? e = some i) (hz : i.zero = some z) (hsize : i.size = size) (hby : i.bytes = bytes) (hzs : z.cells.size = size) (hsz : 0 < size)
    (v : Value) (n : Nat) (xs : List Value) (hs : a.eval s = v) (hown : w.ownsRow base e size v n xs) (B : Nat) (vx : Value) (m : Nat) (ms : List Value) (hx : a.eval x = vx) (hr : Rd B size vx m ms w) (h1 : ∀ u ∈ ms, u.oneCell' = true)
    (h63 : n + m ≤ maxLen) (hbytes : (n + m) * bytes ≤ 140737488355328) (hbase : base ≤ w.heap.size)
    (h : ∀ v' w', w'.ownsRow base e size v' (n + m) (xs ++ ms) → w.grownBy w' v.ownBlock → wpList P ops Q rest (a.put o.dst v') w') : wpList P ops Q (o :: rest) a w := by
  refine wpList_step fun K hK => ?_
  rw [if_pos hw]
  obtain ⟨ao, cap, rfl, hc, hm, h0, hl, hcell⟩ := hr
  cases ao with
  | none =>
    obtain rfl := h0 rfl
    obtain rfl : m = 0 := by omega
    obtain rfl := List.eq_nil_of_length_eq_zero (by simpa using hl)
    have hrun := run_append_owned_none (P := P) (w := w) base t o.type e i size ht hi v n xs hown
    unfold Oper.wp
    simp [execOp, ho, resolve, invoke, builtin, hs, hx, hrun, Result.andThen]
    exact hK _ _ (h v w (by simpa using hown) (World.grownBy.refl w _))
  | some ad =>
    refine wp_append_own w s x t ho base e i z size bytes ht hi hz hsize hby hzs hsz v n xs hs hown ad m cap ms hx hl (fun j u hu => ?_) h1 h63 hbytes hbase fun v' w' h2 h3 _ => hK _ _ (h v' w' h2 h3)
    have hpos : 0 < m := by
      rcases Nat.eq_zero_or_pos m with h | h
      · subst h
        obtain rfl := List.eq_nil_of_length_eq_zero (by simpa using hl)
        simp at hu
      · exact h
    obtain ⟨b, off, e, _, hcc⟩ := hcell hpos
    injection e with e
    subst e
    rw [add_plain]
    exact hcc j u hu
/-- A slice that lies in blocks from B on, or nowhere. -/
def NewV (B : Nat) (v : Value) : Prop := ∀ g, v.ownBlock = some g → B ≤ g
theorem NewV.own {W : World} {base : Nat} {e : TypeId} {size : Nat} {v : Value} {n : Nat} {xs : List Value} (h : W.ownsRow base e size v n xs) : NewV base v := fun g hg => (h.lt g hg).1
theorem NewV.none0 (B : Nat) : NewV B (.slice none 0 0) := fun g hg => by simp [Value.ownBlock] at hg
theorem NewV.mono {B B' : Nat} {v : Value} (h : NewV B v) (hb : B' ≤ B) : NewV B' v := fun g hg => Nat.le_trans hb (h g hg)
/-- What is read of another block than the row that was appended to. -/
theorem Rd.grown {W W' : World} {B size n : Nat} {v : Value} {xs : List Value} {row : Option Nat} (h : Rd B size v n xs W) (hg : W.grownBy W' row) (hB : B ≤ W.heap.size) (hne : ∀ g, row = some g → v.ownBlock ≠ some g) : Rd B size v n xs W' := by
  obtain ⟨ao, cap, rfl, hc, hm, hz, hl, h⟩ := h
  refine ⟨ao, cap, rfl, hc, hm, hz, hl, fun hn => ?_⟩
  obtain ⟨b, off, rfl, hb, h⟩ := h hn
  refine ⟨b, off, rfl, hb, fun j u hu => ?_⟩
  rw [World.cell?_of_block (a := ⟨b, off + j, Option.none⟩) (hg.block b (by omega) (fun e => hne b e.symm rfl))]
  exact h j u hu
/-- Texts in a row of cells. -/
def strs (l : List Str) : List Value := l.map fun s => .string (bs s)
theorem strs_at (l : List Str) (k : Nat) (h : k < l.length) : (strs l)[k]? = some (.string (bs l[k])) := by simp [strs, h]
theorem strs_app (a b : List Str) : strs (a ++ b) = strs a ++ strs b := by simp [strs]
theorem strs_one (l : List Str) : ∀ u ∈ strs l, u.oneCell' = true := by
  intro u hu
  obtain ⟨z, _, rfl⟩ := List.mem_map.1 hu
  rfl
end Go.Proofs.YtpmhmippoefcfaaGreatDoor
namespace Go.Proofs.YtpmhmippoefcfaaGreatDoor
/-- The spans of the parts from place i on; st: where the part that has begun did begin. -/
def sp : Nat → Option Nat → List UInt8 → List (Nat × Nat)
  | _, none, [] => []
  | i, some s, [] => [(s, i)]
  | i, none, c :: r => if c = 47 then sp (i + 1) none r else sp (i + 1) (some i) r
  | i, some s, c :: r => if c = 47 then (s, i) :: sp (i + 1) none r else sp (i + 1) (some s) r
def spans (l : List UInt8) : List (Nat × Nat) := sp 0 none l
def cutS (l : List UInt8) (p : Nat × Nat) : List UInt8 := (l.take p.2).drop p.1
def parts (l : List UInt8) : List (List UInt8) := (spans l).map (cutS l)
/-- Where the part that begins at k ends. -/
def pend (l : List UInt8) (k : Nat) : Nat := k + ((l.drop k).takeWhile (fun c => c != 47)).length
theorem pend_le (l : List UInt8) (k : Nat) (hk : k ≤ l.length) : pend l k ≤ l.length := by
  unfold pend
  have := (List.takeWhile_sublist (fun c : UInt8 => c != 47) (l := l.drop k)).length_le
  simp at this; omega
theorem pend_gt (l : List UInt8) (k : Nat) (hk : k < l.length) (h : l[k] ≠ 47) : k < pend l k := by
  unfold pend
  rw [List.drop_eq_getElem_cons hk, List.takeWhile_cons, if_pos (by simpa using h)]
  simp
theorem indexByte_eq (l : List UInt8) (c : UInt8) : Lib.indexByte l c = if c ∈ l then ((l.takeWhile (fun x => x != c)).length : Int) else -1 := by
  induction l with
  | nil => simp [Lib.indexByte]
  | cons b r ih =>
    unfold Lib.indexByte
    by_cases hb : b = c
    · subst hb; simp
    · have hcb : c ≠ b := fun h => hb h.symm
      simp only [beq_iff_eq, hb, if_false, ih, List.mem_cons, hcb, false_or]
      by_cases hm : c ∈ r
      · simp only [hm, if_true]
        rw [if_neg (by omega)]
        simp [hb]
      · simp [hm]
theorem takeWhile_all (l : List UInt8) (c : UInt8) (h : c ∉ l) : l.takeWhile (fun x => x != c) = l := by
  induction l with
  | nil => rfl
  | cons b r ih =>
    simp only [List.mem_cons, not_or] at h
    have hb : b ≠ c := fun e => h.1 e.symm
    simp [hb, ih h.2]
/-- What partEnd reckons. -/
theorem pend_yes (l : List UInt8) (k : Nat) (h : (47 : UInt8) ∈ l.drop k) : (k : Int) + Lib.indexByte (l.drop k) 47 = pend l k := by
  rw [indexByte_eq, if_pos h]; unfold pend; simp
theorem pend_no (l : List UInt8) (k : Nat) (hk : k ≤ l.length) (h : (47 : UInt8) ∉ l.drop k) : (l.length : Int) = pend l k := by
  unfold pend; rw [takeWhile_all _ _ h]; simp; omega
theorem index_yes (l : List UInt8) (k : Nat) (h : (47 : UInt8) ∈ l.drop k) : 0 ≤ Lib.indexByte (l.drop k) 47 := by rw [indexByte_eq, if_pos h]; omega
theorem index_no (l : List UInt8) (k : Nat) (h : (47 : UInt8) ∉ l.drop k) : Lib.indexByte (l.drop k) 47 = -1 := by rw [indexByte_eq, if_neg h]
theorem sp_some (s : Nat) : ∀ (r : List UInt8) (i : Nat), sp i (some s) r = (s, i + (r.takeWhile (fun c => c != 47)).length) :: sp (i + (r.takeWhile (fun c => c != 47)).length) none (r.drop (r.takeWhile (fun c => c != 47)).length) := by
  intro r
  induction r with
  | nil => intro i; simp [sp]
  | cons c r ih =>
    intro i
    by_cases hc : c = 47
    · subst hc; simp [sp]
    · rw [sp, if_neg hc, ih]
      simp [hc]
      have e : i + 1 + (List.takeWhile (fun c => c != 47) r).length = i + ((List.takeWhile (fun c => c != 47) r).length + 1) := by omega
      rw [e]; exact ⟨rfl, rfl⟩
theorem sp_end (l : List UInt8) : sp l.length none (l.drop l.length) = [] := by simp [sp]
theorem sp_slash (l : List UInt8) (k : Nat) (hk : k < l.length) (h : l[k] = 47) : sp k none (l.drop k) = sp (k + 1) none (l.drop (k + 1)) := by
  rw [List.drop_eq_getElem_cons hk, sp, if_pos h]
theorem sp_part (l : List UInt8) (k : Nat) (hk : k < l.length) (h : l[k] ≠ 47) : sp k none (l.drop k) = (k, pend l k) :: sp (pend l k) none (l.drop (pend l k)) := by
  have e := sp_some k (l.drop k) k
  have e1 : sp k (some k) (l.drop k) = sp k none (l.drop k) := by
    rw [List.drop_eq_getElem_cons hk, sp, sp, if_neg h, if_neg h]
  rw [← e1, e]
  unfold pend
  rw [List.drop_drop]
theorem sp_bd : ∀ (r : List UInt8) (i : Nat) (st : Option Nat), (∀ s, st = some s → s < i) → ∀ p ∈ sp i st r, st.getD i ≤ p.1 ∧ p.1 < p.2 ∧ p.2 ≤ i + r.length := by
  intro r
  induction r with
  | nil =>
    intro i st hst p hp
    cases st with
    | none => simp [sp] at hp
    | some s => simp [sp] at hp; subst hp; have := hst s rfl; simp; omega
  | cons c r ih =>
    intro i st hst p hp
    cases st with
    | none =>
      rw [sp] at hp
      split at hp
      · have := ih (i + 1) none (by simp) p hp; simp at this ⊢; omega
      · have := ih (i + 1) (some i) (by simp) p hp; simp at this ⊢; omega
    | some s =>
      have hs := hst s rfl
      rw [sp] at hp
      split at hp
      · simp only [List.mem_cons] at hp
        rcases hp with rfl | hp
        · simp; omega
        · have := ih (i + 1) none (by simp) p hp; simp at this ⊢; omega
      · have := ih (i + 1) (some s) (by simp; omega) p hp; simp at this ⊢; omega
theorem spans_bd (l : List UInt8) (p : Nat × Nat) (h : p ∈ spans l) : p.1 < p.2 ∧ p.2 ≤ l.length := by
  have := sp_bd l 0 none (by simp) p h; simp at this; omega
theorem sp_len : ∀ (r : List UInt8) (i : Nat) (st : Option Nat), (sp i st r).length ≤ r.length + (if st = none then 0 else 1) := by
  intro r
  induction r with
  | nil => intro i st; cases st <;> simp [sp]
  | cons c r ih =>
    intro i st
    cases st with
    | none =>
      rw [sp]
      split
      · have := ih (i + 1) none; simp at this ⊢; omega
      · have := ih (i + 1) (some i); simp at this ⊢; omega
    | some s =>
      rw [sp]
      split
      · have := ih (i + 1) none; simp at this ⊢; omega
      · have := ih (i + 1) (some s); simp at this ⊢; omega
theorem spans_len (l : List UInt8) : (spans l).length ≤ l.length := by have := sp_len l 0 none; simpa [spans] using this
end Go.Proofs.YtpmhmippoefcfaaGreatDoor
namespace Go.Proofs.YtpmhmippoefcfaaGreatDoor
open Go.RowKit Go.Shelf
attribute [local go_sem] Oper.semAt_some wide_fn wide_depth
set_option maxHeartbeats 400000 in
theorem partEnd_any (s : ByteArray) (k : Nat) (w : World) (hk : k ≤ s.size) (hs : s.size ≤ 65000) :
    Calls Tryz.prog 151 #[.string s, .int .i64 k] w fun e w' => e = .returned (.int .i64 (pend s.data.toList k)) ∧ w = w' := by
  by_cases hm : (47 : UInt8) ∈ s.data.toList.drop k
  · have h0 := index_yes _ _ hm
    have h1 := pend_yes _ _ hm
    have h2 := pend_le s.data.toList k (by rw [data_len]; exact hk)
    rw [data_len] at h2
    rw [← take_drop] at h0 h1
    have h3 : (k : Int) + Lib.indexByte (List.take (s.size - k) (List.drop k s.data.toList)) 47 ≤ 65000 := by omega
    have H := Lib.hid h1
    clear h1 h2 hm
    go_enter Tryz.func151, Tryz.ntmps151
    go_wp2_with (go_at_call 143; refine (Tryz.strings_IndexByte _ _ _).mono ?_; rintro e w' ⟨rfl, rfl⟩)
    go_ret
    exact ⟨ret_int H.out, rfl⟩
  · have h0 : Lib.indexByte (List.take (s.size - k) (List.drop k s.data.toList)) 47 < 0 := by rw [take_drop, index_no _ _ hm]; decide
    have h1 := pend_no s.data.toList k (by rw [data_len]; exact hk) hm
    rw [data_len] at h1
    have H := Lib.hid h1
    clear h1 hm
    go_enter Tryz.func151, Tryz.ntmps151
    go_wp2_with (go_at_call 143; refine (Tryz.strings_IndexByte _ _ _).mono ?_; rintro e w' ⟨rfl, rfl⟩)
    go_ret
    exact ⟨ret_int H.out, rfl⟩
/-- A span within a path. -/
abbrev Span (s : ByteArray) := { p : Nat × Nat // p.1 < p.2 ∧ p.2 ≤ s.size }
abbrev encP {s : ByteArray} (p : Span s) : Array Value := #[.int .i64 p.1.1, .int .i64 p.1.2]
set_option maxRecDepth 100000 in
set_option maxHeartbeats 1000000 in
theorem spansIt (s : ByteArray) (hs : s.size ≤ 65000) (l Bn n : Nat) (J Jx : List (Span s) → World → Prop)
    (hY : ∀ pre x W, J pre W → pre.length < (spans s.data.toList).length → YieldAt Fence.wide (n - 1) Tryz.prog l (encP x) W fun e W' =>
      (e = .returned (.bool true) ∧ J (pre ++ [x]) W' ∧ KeepsBox Bn W W') ∨ (e = .returned (.bool false) ∧ Jx (pre ++ [x]) W'))
    (W : World) (hBn : W.cell? ⟨Bn, 0, none⟩ = some (.string s)) (h0 : J [] W) :
    CallsIn Fence.wide n Tryz.prog 150 #[.func (.yield l) #[] #[], .pointer (some ⟨Bn, 0, none⟩)] W fun e W' => (∃ v, e = .returned v) ∧
      ((∃ ys : List (Span s), ys.map (·.1) = spans s.data.toList ∧ J ys W') ∨ (∃ pre : List (Span s), pre.map (·.1) <+: spans s.data.toList ∧ Jx pre W')) := by
  refine callsIn_of_wp Tryz.func150 rfl trivial ?_ rfl
  simp only [Tryz.ntmps150, List.size_toArray, List.length_cons, List.length_nil, Nat.reduceAdd, Nat.reduceSub, Array.replicate_succ, Array.replicate_zero, List.push_toArray, List.append_toArray, List.nil_append, List.cons_append]
  gi_wp2
  gi_loopw [3] (fun i wr => ∃ (pre : List (Span s)) (k : Nat), i = .int .i64 k ∧ k ≤ s.size ∧ pre.map (·.1) ++ sp k none (s.data.toList.drop k) = spans s.data.toList ∧ wr.cell? ⟨Bn, 0, none⟩ = some (.string s) ∧ J pre wr)
    (fun i _ => s.size - (intOf i).toNat)
  case atStart => exact ⟨[], 0, rfl, Nat.zero_le _, rfl, hBn, h0⟩
  case round =>
    obtain ⟨pre, k, rfl, hk, hpre, hB, hJ⟩ := hrel
    have Hpre := Lib.hid hpre
    clear hpre
    by_cases hlt : k < s.size
    · by_cases hc : s[k] = 47
      · have hcI : ((s[k].toNat : Int) == 47) = true := by rw [hc]; rfl
        have Hc := Lib.hid hc
        clear hc
        gi_wp2
        go_roundw
        case rel => exact ⟨pre, k + 1, by go_num, by omega, by rw [← sp_slash _ _ (by rw [data_len]; exact hlt) Hc.out]; exact Hpre.out, hB, hJ⟩
        case measure => simp [intOf]; omega
      · have hcI : ((s[k].toNat : Int) == 47) = false := by
          rw [beq_eq_false_iff_ne]; intro h; exact hc (UInt8.toNat_inj.1 (by have e : (47 : UInt8).toNat = 47 := rfl; omega))
        have hpe := pend_le s.data.toList k (by rw [data_len]; omega)
        rw [data_len] at hpe
        have hpg := pend_gt s.data.toList k (by rw [data_len]; exact hlt) hc
        have hsp := Hpre.out
        rw [sp_part _ _ (by rw [data_len]; exact hlt) hc] at hsp
        have hln : pre.length < (spans s.data.toList).length := by rw [← hsp]; simp
        have hpx : k < pend s.data.toList k ∧ pend s.data.toList k ≤ s.size := ⟨hpg, hpe⟩
        obtain ⟨fn, tmps, assign, body, hy, hR⟩ := hY pre ⟨(k, pend s.data.toList k), hpx⟩ wr hJ hln
        have Hsp := Lib.hid hsp
        clear hsp hc hln
        dsimp only [encP] at hy
        gi_wp2_with (gi_at_call 151; refine (callsIn_wide.2 (partEnd_any _ _ _ (by omega) (by omega))).mono ?_; rintro e w' ⟨rfl, rfl⟩)
        refine hR.mono ?_
        rintro e W3 (⟨rfl, hJ3, hk3⟩ | ⟨rfl, hJx3⟩)
        · have hB3 : W3.cell? ⟨Bn, 0, none⟩ = some (.string s) := Eq.trans hk3 hB
          gi_wp2
          go_roundw
          case rel => exact ⟨pre ++ [⟨(k, pend s.data.toList k), hpx⟩], pend s.data.toList k, rfl, hpe, by simpa using Hsp.out, hB3, hJ3⟩
          case measure => simp [intOf]; omega
        · gi_wp2
          refine bodyPost_ret (results_none rfl _ _ _) rfl ?_
          exact ⟨⟨_, rfl⟩, .inr ⟨pre ++ [⟨(k, pend s.data.toList k), hpx⟩], ⟨_, by simpa using Hsp.out⟩, hJx3⟩⟩
    · obtain rfl : k = s.size := by omega
      gi_wp2
      go_end0
      refine ⟨⟨_, rfl⟩, .inl ⟨pre, ?_, hJ⟩⟩
      have e : sp s.size none (s.data.toList.drop s.size) = [] := by have := sp_end s.data.toList; rwa [data_len] at this
      have := Hpre.out
      rw [e] at this
      simpa using this
theorem spans_any (s : ByteArray) (w : World) :
    Calls Tryz.prog 144 #[.string s] w fun e w' => e = .returned (.func (.func 150) #[] #[.pointer (some ⟨w.heap.size, 0, none⟩)]) ∧ w' = w.alloc (.cells #[.string s] 9) := by
  go_enter Tryz.func144, Tryz.ntmps144
  go_wp2
  go_ret
  exact ⟨rfl, rfl⟩
theorem spans_stops (s : ByteArray) (hs : s.size ≤ 65000) (n Bn : Nat) (w : World) (hBn : Bn < w.heap.size) (hc : w.cell? ⟨Bn, 0, none⟩ = some (.string s)) :
    SeqStopsK Fence.wide n Tryz.prog 150 #[.pointer (some ⟨Bn, 0, none⟩)] (encP (s := s)) (KeepsBox Bn) (fun ys => ys.map (·.1) = spans s.data.toList) (fun pre => pre.map (·.1) <+: spans s.data.toList) (spans s.data.toList).length w := fun l J Jx W hW _ _ hY h0 =>
  spansIt s hs l Bn n J Jx hY W ((hW.cell (p := ⟨Bn, 0, none⟩) hBn).trans hc) h0
end Go.Proofs.YtpmhmippoefcfaaGreatDoor
namespace Go.Proofs.YtpmhmippoefcfaaGreatDoor
open Go.RowKit Go.Shelf
attribute [local go_sem] Oper.semAt_some wide_fn wide_depth
theorem infoStr : (Tryz.prog.info? 9).map (fun i => (i.zero, i.size, i.bytes)) = some (some (.string ByteArray.empty), 1, 16) := by kernel_rfl
set_option maxRecDepth 100000 in
set_option maxHeartbeats 1000000 in
theorem split_any (s : ByteArray) (hs : s.size ≤ 65000) (w : World) :
    Calls Tryz.prog 138 #[.string s] w fun e W' => ∃ v, e = .returned (.tuple #[v, .bool (Lib.hasPrefix s.data.toList [47]), .bool (Lib.hasSuffix s.data.toList [47])]) ∧
      W'.ownsRow w.heap.size 9 1 v (parts s.data.toList).length (strs (parts s.data.toList)) ∧ Below w.heap.size w W' := by
  refine (callsIn_wide (n := 5)).1 ?_
  obtain ⟨i0, hi, hz0, hz1, hz2⟩ := info_parts infoStr
  refine callsIn_of_wp_marks Tryz.func138 rfl trivial ?_ rfl
  simp only [Tryz.ntmps138, List.size_toArray, List.length_cons, List.length_nil, Nat.reduceAdd, Nat.reduceSub, Array.replicate_succ, Array.replicate_zero, List.push_toArray, List.append_toArray, List.nil_append, List.cons_append]
  gi_wp2_with (gi_at_call 144; refine (callsIn_wide.2 (spans_any _ _)).mono ?_; rintro e w' ⟨rfl, rfl⟩)
  have bP := ((Boxed.new w 9 (.string s)).alloc (.cells #[.slice none 0 0] 78)).alloc (.cells #[.string s] 9)
  have bO := (Boxed.new (w.alloc (.cells #[.string s] 9)) 78 (.slice none 0 0)).alloc (.cells #[.string s] 9)
  have bB := Boxed.new ((w.alloc (.cells #[.string s] 9)).alloc (.cells #[.slice none 0 0] 78)) 9 (.string s)
  rw [World.size_alloc] at bO bB
  rw [World.size_alloc] at bB
  have hB0 : Below w.heap.size w (((w.alloc (.cells #[.string s] 9)).alloc (.cells #[.slice none 0 0] 78)).alloc (.cells #[.string s] 9)) := (((Below.refl _ w).alloc (Nat.le_refl _) _).alloc (by simp) _).alloc (by simp; omega) _
  refine wpIn_rangeFunc_ownG rfl (by decide) (gf := 150) (lb := #[.pointer (some ⟨w.heap.size + 1 + 1, 0, none⟩)]) rfl trivial (enters_of Tryz.func150 (by kernel_rfl) rfl)
    (spans_stops s hs (5 - 1) (w.heap.size + 1 + 1) _ (by simp) bB.cell) keepsBox_t (keepsBox_b (by simp)) (Below.refl _ _) (fun _ => rfl)
    (fun pre W => (∃ v, Boxed W (w.heap.size + 1) 78 v ∧ W.ownsRow w.heap.size 9 1 v pre.length (strs (pre.map fun p => cutS s.data.toList p.1)) ∧ (∀ g, v.ownBlock = some g → w.heap.size + 3 ≤ g)) ∧ Boxed W w.heap.size 9 (.string s) ∧ Boxed W (w.heap.size + 1 + 1) 9 (.string s) ∧ Below w.heap.size w W)
    (fun _ _ _ => False)
    (OwnFrom.and (Own.from (holdsRow_own w.heap.size (w.heap.size + 1) 78 9 1 (fun pre : List (Span s) => pre.length) (fun pre => strs (pre.map fun p => cutS s.data.toList p.1)) (fun _ v => ∀ g, v.ownBlock = some g → w.heap.size + 3 ≤ g)) _)
      (OwnFrom.and (Own.from (boxed_own _ _ _) _) (OwnFrom.and (Own.from (boxed_own _ _ _) _) (ownFrom_below (Nat.le_refl _) (by simp; omega)))))
    (fun _ _ _ _ _ hs _ _ => hs)
    ⟨⟨_, bO, World.ownsRow_nil _ _ _ _, fun _ h => (by cases h)⟩, bP, bB, hB0⟩
    (fun x => { tmps := #[.string s, .pointer (some ⟨w.heap.size, 0, none⟩), .slice none 0 0, .bool false, .bool false, .pointer (some ⟨w.heap.size + 1, 0, none⟩), .int .i64 x.1.1, .int .i64 x.1.2, .string s,
      .func (.func 150) #[] #[.pointer (some ⟨w.heap.size + 1 + 1, 0, none⟩)], .int .i64 x.1.1, .int .i64 x.1.2, undef, undef, undef, undef, undef, undef, undef, undef, undef, undef, undef, undef], defers := [] }) ?assign ?body ?done ?stop
  case assign =>
    intro l x W K hK
    dsimp only [encP]
    gi_wp2
    exact hK
  case body =>
    rintro l pre ⟨⟨x, y⟩, hxy, hy⟩ W ⟨⟨v, hv, hrow, hfar⟩, hp, hb, hB⟩ hlt
    dsimp only at hxy hy ⊢
    gi_wp2
    refine region_round_inv (I := fun listed a' w' => ∃ (b0 b1 b2 b3 b4 b5 b6 b7 : Bool) (t12 t13 t14 t15 t16 t17 t18 : Value), listed = #[b0, b1, b2, b3, b4, b5, b6, b7] ∧
      a' = { tmps := #[.string s, .pointer (some ⟨w.heap.size, 0, none⟩), .slice none 0 0, .bool false, .bool false, .pointer (some ⟨w.heap.size + 1, 0, none⟩), .int .i64 x, .int .i64 y, .string s,
        .func (.func 150) #[] #[.pointer (some ⟨w.heap.size + 1 + 1, 0, none⟩)], .int .i64 x, .int .i64 y, t12, t13, t14, t15, t16, t17, t18, undef, undef, undef, undef, undef], defers := [] } ∧
      (b0 = true → t12 = v) ∧ (b1 = true → t13 = .string s) ∧ (b2 = true → t14 = .int .i64 x) ∧ (b3 = true → t15 = .int .i64 y) ∧ (b4 = true → t16 = .string ⟨(cutS s.data.toList (x, y)).toArray⟩) ∧
      (b4 = true → b1 = true ∧ b2 = true ∧ b3 = true) ∧ (b5 = true → b4 = true) ∧ (b6 = true → b0 = true ∧ b5 = true) ∧ (b7 = true → b6 = true) ∧ (b5 = false → w' = W.drew) ∧
      (b5 = true → b6 = false → t17 = .slice (some ⟨W.heap.size, 0, none⟩) 1 1 ∧ w' = W.drew.alloc (.cells #[.string ⟨(cutS s.data.toList (x, y)).toArray⟩] 9)) ∧
      (b6 = true → b7 = false → ∃ g cap, t18 = .slice (some ⟨g, 0, none⟩) (pre.length + 1) cap ∧ w'.ownsRow w.heap.size 9 1 t18 (pre.length + 1) (strs (pre.map fun p => cutS s.data.toList p.1) ++ [.string ⟨(cutS s.data.toList (x, y)).toArray⟩]) ∧
        (W.drew.alloc (.cells #[.string ⟨(cutS s.data.toList (x, y)).toArray⟩] 9)).grownBy w' v.ownBlock ∧ (v.ownBlock = some g ∨ g = W.heap.size + 1)) ∧
      (b7 = true → ∃ w1 g cap, w1.ownsRow w.heap.size 9 1 (.slice (some ⟨g, 0, none⟩) (pre.length + 1) cap) (pre.length + 1) (strs (pre.map fun p => cutS s.data.toList p.1) ++ [.string ⟨(cutS s.data.toList (x, y)).toArray⟩]) ∧
        (W.drew.alloc (.cells #[.string ⟨(cutS s.data.toList (x, y)).toArray⟩] 9)).grownBy w1 v.ownBlock ∧ (v.ownBlock = some g ∨ g = W.heap.size + 1) ∧ w' = w1.setCell ⟨w.heap.size + 1, 0, none⟩ (.slice (some ⟨g, 0, none⟩) (pre.length + 1) cap)))
      (by kernel_rfl) (by kernel_rfl) (fun ⟨_, _, h⟩ => h) ?start ?step ?fin
    case start => exact ⟨false, false, false, false, false, false, false, false, undef, undef, undef, undef, undef, undef, undef, rfl, rfl, by simp, by simp, by simp, by simp, by simp, by simp, by simp, by simp, by simp, fun _ => rfl, by simp, by simp, by simp⟩
    case step =>
      rintro listed i o a' w' K hsz hi ho ⟨b0, b1, b2, b3, b4, b5, b6, b7, t12, t13, t14, t15, t16, t17, t18, rfl, rfl, h12, h13, h14, h15, h16, c4, c5, c6, c7, hw0, hw1, hw2, hw3⟩ hK
      obtain ⟨h1, o', ho', hall⟩ := mem_ready.1 hi
      obtain rfl : o' = o := Option.some.inj (ho'.symm.trans ho)
      have hlt : i < 8 := (Array.getElem?_eq_some_iff.1 ho).1
      clear hi ho'
      have hcas : i = 0 ∨ i = 1 ∨ i = 2 ∨ i = 3 ∨ i = 4 ∨ i = 5 ∨ i = 6 ∨ i = 7 := by omega
      rcases hcas with rfl | rfl | rfl | rfl | rfl | rfl | rfl | rfl
      all_goals
        simp only [List.getElem?_toArray, List.getElem?_cons_zero, List.getElem?_cons_succ, Option.some.injEq] at ho
        subst ho
        simp [Region.binds] at hall h1
      · -- the load of the list's box
        subst h1
        obtain rfl := bf (fun h => (c6 h).1) rfl
        obtain rfl := bf c7 rfl
        have hc : w'.cell? ⟨w.heap.size + 1, 0, none⟩ = some v := by
          cases b5
          · rw [hw0 rfl]; exact hv.cell
          · rw [(hw1 rfl rfl).2]; exact (Boxed.alloc (W := W.drew) hv _).cell
        go_simp
        exact hK _ _ ⟨true, b1, b2, b3, b4, b5, false, false, v, t13, t14, t15, t16, t17, t18, rfl, rfl, fun _ => rfl, h13, h14, h15, h16, c4, c5, by simp, by simp, hw0, hw1, by simp, by simp⟩
      · -- the load of the path's box
        subst h1
        obtain rfl := bf (fun h => (c4 h).1) rfl
        obtain rfl := bf c5 rfl
        obtain rfl := bf (fun h => (c6 h).2) rfl
        obtain rfl := bf c7 rfl
        obtain rfl := hw0 rfl
        have hc : W.cell? ⟨w.heap.size, 0, none⟩ = some (.string s) := hp.cell
        go_simp
        exact hK _ _ ⟨b0, true, b2, b3, false, false, false, false, t12, _, t14, t15, t16, t17, t18, rfl, rfl, h12, fun _ => rfl, h14, h15, h16, by simp, by simp, by simp, by simp, hw0, hw1, by simp, by simp⟩
      · subst h1
        obtain rfl := bf (fun h => (c4 h).2.1) rfl
        go_simp
        exact hK _ _ ⟨b0, b1, true, b3, false, b5, b6, b7, t12, t13, _, t15, t16, t17, t18, rfl, rfl, h12, h13, fun _ => rfl, h15, h16, by simp, c5, c6, c7, hw0, hw1, hw2, hw3⟩
      · subst h1
        obtain rfl := bf (fun h => (c4 h).2.2) rfl
        go_simp
        exact hK _ _ ⟨b0, b1, b2, true, false, b5, b6, b7, t12, t13, t14, _, t16, t17, t18, rfl, rfl, h12, h13, h14, fun _ => rfl, h16, by simp, c5, c6, c7, hw0, hw1, hw2, hw3⟩
      · -- the piece
        subst h1
        obtain ⟨rfl, rfl, rfl⟩ := hall
        obtain rfl := h13 rfl
        obtain rfl := h14 rfl
        obtain rfl := h15 rfl
        have g1 : (0 : Int) ≤ x := by omega
        have g2 : (x : Int) ≤ y := by omega
        have g3 : (y : Int) ≤ s.size := by omega
        go_simp
        refine hK _ _ ⟨b0, true, true, true, true, b5, b6, b7, t12, _, _, _, _, t17, t18, rfl, rfl, h12, fun _ => rfl, fun _ => rfl, fun _ => rfl, fun _ => ?_, by simp, fun _ => rfl, c6, c7, hw0, hw1, hw2, hw3⟩
        rw [extract_eq]; rfl
      · -- the new block
        subst h1
        subst hall
        obtain rfl := bf (fun h => (c6 h).2) rfl
        obtain rfl := bf c7 rfl
        obtain rfl := hw0 rfl
        obtain ⟨rfl, rfl, rfl⟩ := c4 rfl
        obtain rfl := h13 rfl
        obtain rfl := h14 rfl
        obtain rfl := h15 rfl
        obtain rfl := h16 rfl
        go_simp
        refine hK _ _ ⟨b0, true, true, true, true, true, false, false, t12, _, _, _, _, _, t18, rfl, rfl, h12, fun _ => rfl, fun _ => rfl, fun _ => rfl, fun _ => rfl, by simp, fun _ => rfl, by simp, by simp, by simp, fun _ _ => ⟨?_, ?_⟩, by simp, by simp⟩
        all_goals rfl
      · -- the append
        subst h1
        obtain ⟨rfl, rfl⟩ := hall
        obtain rfl := bf c7 rfl
        obtain ⟨rfl, rfl⟩ := hw1 rfl rfl
        obtain rfl := h12 rfl
        have hnl : pre.length ≤ 65000 := by have := spans_len s.data.toList; rw [data_len] at this; omega
        refine step_append_lies _ rfl (.tmp 12) (.tmp 17) 78 rfl w.heap.size 9 i0 (.string ByteArray.empty) 1 16 Tryz.underlying78 hi hz0 hz1 hz2 rfl (by decide) t12 pre.length _ rfl (World.ownsRow.alloc (w := W.drew) hrow _) ⟨W.heap.size, 0, none⟩ 1 1 [.string ⟨(cutS s.data.toList (x, y)).toArray⟩] rfl rfl ?_ ?_ (by decide) ?_ ?_ ?_ (W.heap.size + 1) ?_ ?_
        · intro j u hj
          cases j with
          | zero => simp only [List.getElem?_cons_zero, Option.some.injEq] at hj; subst hj; exact (Boxed.new W.drew 9 _).cell
          | succ j => simp at hj
        · intro u hu; simp only [List.mem_singleton] at hu; subst hu; rfl
        · unfold maxLen; omega
        · omega
        · have := hB.size; rw [World.size_alloc]; exact Nat.le_succ_of_le this
        · rw [World.size_alloc]; rfl
        · intro g cap w1 h1 h2 hlie _
          exact hK _ _ ⟨true, b1, b2, b3, b4, true, true, false, t12, t13, t14, t15, t16, _, _, rfl, rfl, fun _ => rfl, h13, h14, h15, h16, c4, c5, by simp, by simp, by simp, by simp, fun _ _ => ⟨g, cap, rfl, h1, h2, hlie⟩, by simp⟩
      · -- the store
        subst h1
        obtain rfl : b6 = true := by simp_all only
        obtain ⟨rfl, rfl⟩ := c6 rfl
        obtain rfl := c5 rfl
        obtain ⟨rfl, rfl, rfl⟩ := c4 rfl
        obtain rfl := h12 rfl
        obtain rfl := h13 rfl
        obtain rfl := h14 rfl
        obtain rfl := h15 rfl
        obtain rfl := h16 rfl
        obtain ⟨g, cap, rfl, h2, h3, h4⟩ := hw2 rfl rfl
        have hv1 := (Boxed.appended (W := W.drew) hv (by decide) (World.ownsRow.drew hrow) hB.size (Nat.le_succ _) h2 h3).1
        have hc1 := hv1.cell
        have hf1 := hv1.frozen
        clear hw0 hw1 hw2 hw3 hall
        go_simp
        exact hK _ _ ⟨true, true, true, true, true, true, true, true, _, _, _, _, _, t17, _, rfl, rfl, fun _ => rfl, fun _ => rfl, fun _ => rfl, fun _ => rfl, fun _ => rfl, by simp, by simp, by simp, by simp, by simp, by simp, by simp, fun _ => ⟨w', g, cap, h2, h3, h4, rfl⟩⟩
    case fin =>
      rintro listed a' w' hsz ⟨b0, b1, b2, b3, b4, b5, b6, b7, t12, t13, t14, t15, t16, t17, t18, rfl, rfl, h12, h13, h14, h15, h16, c4, c5, c6, c7, hw0, hw1, hw2, hw3⟩ hr
      have hb7 := ready_all (by kernel_rfl) hsz hr 7 (by decide)
      obtain rfl : b7 = true := hb7
      obtain ⟨w1, g, cap, h2, h3, h4, rfl⟩ := hw3 rfl
      obtain ⟨_, q2, q3, q4, q5⟩ := Boxed.appended (W := W.drew) hv (by decide) (World.ownsRow.drew hrow) hB.size (Nat.le_succ _) h2 h3
      have np : some w.heap.size ≠ v.ownBlock := fun e => by have := hfar _ e.symm; omega
      have nb : some (w.heap.size + 1 + 1) ≠ v.ownBlock := fun e => by have := hfar _ e.symm; omega
      have hp1 := ((Boxed.alloc (W := W.drew) hp _).kept h3 np).other (B' := w.heap.size + 1) (by omega) (.slice (some ⟨g, 0, none⟩) (pre.length + 1) cap)
      have hb1 := ((Boxed.alloc (W := W.drew) hb _).kept h3 nb).other (B' := w.heap.size + 1) (by omega) (.slice (some ⟨g, 0, none⟩) (pre.length + 1) cap)
      have hg : w.heap.size + 3 ≤ g := by
        rcases h4 with h4 | h4
        · exact hfar _ h4
        · have := hb.lt; omega
      refine ⟨((KeepsOthers.drew W).trans q4).from _, ?_, ⟨_, q2, ?_, fun g' e => by cases e; exact hg⟩, hp1, hb1, hB.trans (((Below.refl _ W).drew).trans q5)⟩
      · unfold KeepsBox; rw [hb1.cell, hb.cell]
      · simpa [strs] using q3
  case done =>
    rintro D ys W hD hys ⟨⟨v, hv, hrow, hfar⟩, hp, hb, hB⟩ hK
    have hc1 := hv.cell
    have hc2 := hp.cell
    gi_wp2
    refine wpIn_wide.2 ?_
    go_quiet ((first | (go_at_call 145; exact Calls.quiet_of_same ((Tryz.strings_HasPrefix _ _ _).mono fun e w' h => ⟨h.1, h.2⟩)) | (go_at_call 107; exact Calls.quiet_of_same ((Tryz.strings_HasSuffix _ _ _ (by omega)).mono fun e w' h => ⟨h.1, h.2⟩))))
    gi_wp2
    refine ⟨by simp, .inl ⟨_, _, rfl, run_takeDeferred (w := W.drewN nq) hK, ?_⟩⟩
    have e1 : (spans s.data.toList).length = ys.length := by rw [← hys]; simp
    have e2 : parts s.data.toList = ys.map fun p => cutS s.data.toList p.1 := by unfold parts; rw [← hys, List.map_map]; rfl
    refine ⟨.tuple #[v, .bool (Lib.hasPrefix s.data.toList [47]), .bool (Lib.hasSuffix s.data.toList [47])], ?_, v, rfl, ?_, ?_⟩
    · simp [results, Tryz.results138, go_sem]
    · rw [e2, List.length_map]
      exact ownsRow_putObj (ownsRow_drewN hrow nq) _ hK rfl
    · exact (below_drewN hB nq).trans (belowK_b (w := w) (Nat.le_refl _) _ D _ _ (by simp at hD; omega) hK rfl rfl)
  case stop =>
    rintro D c pre W _ _ h _
    exact h.elim
end Go.Proofs.YtpmhmippoefcfaaGreatDoor
namespace Go.Proofs.YtpmhmippoefcfaaGreatDoor
open Go.RowKit Go.Shelf
attribute [local go_sem] Oper.semAt_some wide_fn wide_depth
end Go.Proofs.YtpmhmippoefcfaaGreatDoor
namespace Go.Proofs.YtpmhmippoefcfaaGreatDoor
open Go.RowKit Go.Shelf
attribute [local go_sem] Oper.semAt_some wide_fn wide_depth
/-- What Check answers. -/
def checkE (l : List UInt8) : Int :=
  if l = [] then 2 else if 100 < l.length then 9 else if (0 : UInt8) ∈ l then 1 else if (spans l).any (fun p => decide (12 < p.2 - p.1)) then 9 else 0
theorem isEmpty_no (s : ByteArray) (h : s.data.toList ≠ []) : s.toList.isEmpty = false := by
  rw [Lib.toList_data]; cases e : s.data.toList with | nil => exact absurd e h | cons a r => rfl
theorem isEmpty_yes (s : ByteArray) (h : s.data.toList = []) : s.toList.isEmpty = true := by rw [Lib.toList_data, h]; rfl
theorem check_e0 {l : List UInt8} (h : l = []) : checkE l = 2 := by unfold checkE; rw [if_pos h]
theorem check_e1 {l : List UInt8} (h : l ≠ []) (h2 : 100 < l.length) : checkE l = 9 := by unfold checkE; rw [if_neg h, if_pos h2]
theorem check_e2 {l : List UInt8} (h : l ≠ []) (h2 : ¬ 100 < l.length) (h3 : (0 : UInt8) ∈ l) : checkE l = 1 := by unfold checkE; rw [if_neg h, if_neg h2, if_pos h3]
theorem check_e3 {l : List UInt8} (h : l ≠ []) (h2 : ¬ 100 < l.length) (h3 : (0 : UInt8) ∉ l) (h4 : ∃ p ∈ spans l, 12 < p.2 - p.1) : checkE l = 9 := by
  unfold checkE; rw [if_neg h, if_neg h2, if_neg h3, if_pos]
  obtain ⟨p, hp, hl⟩ := h4
  exact List.any_eq_true.2 ⟨p, hp, by simpa using hl⟩
theorem check_e4 {l : List UInt8} (h : l ≠ []) (h2 : ¬ 100 < l.length) (h3 : (0 : UInt8) ∉ l) (h4 : ∀ p ∈ spans l, p.2 - p.1 ≤ 12) : checkE l = 0 := by
  unfold checkE; rw [if_neg h, if_neg h2, if_neg h3, if_neg]
  intro hc
  obtain ⟨p, hp, hl⟩ := List.any_eq_true.1 hc
  have := h4 p hp; simp at hl; omega
def AllSmall {s : ByteArray} (pre : List (Span s)) : Prop := ∀ p ∈ pre, p.1.2 - p.1.1 ≤ 12
def SomeBig {s : ByteArray} (pre : List (Span s)) : Prop := ∃ p ∈ pre, 12 < p.1.2 - p.1.1
set_option maxRecDepth 100000 in
set_option maxHeartbeats 1000000 in
theorem check_walk (s : ByteArray) (hs : s.size ≤ 65000) (w : World) (h1 : s.data.toList ≠ []) (h2 : ¬ 100 < s.data.toList.length) (h3 : (0 : UInt8) ∉ s.data.toList) :
    Calls Tryz.prog 137 #[.string s] w fun e W' => e = .returned (.int .i64 (checkE s.data.toList)) ∧ Below w.heap.size w W' := by
  have n1 := isEmpty_no s h1
  have n2 : s.size ≤ 100 := by rw [data_len] at h2; omega
  have n3 : Lib.indexByte s.data.toList 0 < 0 := by rw [indexByte_eq, if_neg h3]; decide
  have m2 : decide ((100 : Int) < (s.size : Int)) = false := by simp; omega
  have m3 : decide (0 ≤ Lib.indexByte s.data.toList 0) = false := by simp; omega
  have H1 := Lib.hid h1
  have H2 := Lib.hid h2
  have H3 := Lib.hid h3
  clear h1 h2 h3
  refine (callsIn_wide (n := 5)).1 ?_
  refine callsIn_of_wp_marks Tryz.func137 rfl trivial ?_ rfl
  simp only [Tryz.ntmps137, List.size_toArray, List.length_cons, List.length_nil, Nat.reduceAdd, Nat.reduceSub, Array.replicate_succ, Array.replicate_zero, List.push_toArray, List.append_toArray, List.nil_append, List.cons_append]
  gi_wp2_with (first | (gi_at_call 143; refine (callsIn_wide.2 (Tryz.strings_IndexByte _ _ _)).mono ?_; rintro e w' ⟨rfl, rfl⟩) | (gi_at_call 144; refine (callsIn_wide.2 (spans_any _ _)).mono ?_; rintro e w' ⟨rfl, rfl⟩))
  have bO := (Boxed.new w 34 (.int .i64 0)).alloc (.cells #[.string s] 9)
  have bB := Boxed.new (w.alloc (.cells #[.int .i64 0] 34)) 9 (.string s)
  rw [World.size_alloc] at bB
  have hB0 : Below w.heap.size w ((w.alloc (.cells #[.int .i64 0] 34)).alloc (.cells #[.string s] 9)) := ((Below.refl _ w).alloc (Nat.le_refl _) _).alloc (by simp) _
  refine wpIn_rangeFunc_ownG rfl (by decide) (gf := 150) (lb := #[.pointer (some ⟨w.heap.size + 1, 0, none⟩)]) rfl trivial (enters_of Tryz.func150 (by kernel_rfl) rfl)
    (spans_stops s hs (5 - 1) (w.heap.size + 1) _ (by simp) bB.cell) keepsBox_t (keepsBox_b (by simp)) (Below.refl _ _) (fun _ => rfl)
    (fun pre W => Boxed W w.heap.size 34 (.int .i64 0) ∧ Boxed W (w.heap.size + 1) 9 (.string s) ∧ Below w.heap.size w W ∧ AllSmall pre)
    (fun c pre W => c = .ret ∧ Boxed W w.heap.size 34 (.int .i64 9) ∧ Below w.heap.size w W ∧ SomeBig pre)
    (OwnFrom.and (Own.from (boxed_own _ _ _) _) (OwnFrom.and (Own.from (boxed_own _ _ _) _) (OwnFrom.and (ownFrom_below (Nat.le_refl _) (by simp; omega)) (ownFrom_pure _ (fun pre : List (Span s) => AllSmall pre)))))
    (fun c => OwnFrom.and (ownFrom_pure _ (fun _ => c = .ret)) (OwnFrom.and (Own.from (boxed_own _ _ _) _) (OwnFrom.and (ownFrom_below (Nat.le_refl _) (by simp; omega)) (ownFrom_pure _ (fun pre : List (Span s) => SomeBig pre)))))
    ⟨bO, bB, hB0, by simp [AllSmall]⟩
    (fun x => { tmps := #[.string s, undef, .pointer (some ⟨w.heap.size, 0, none⟩), .int .i64 x.1.1, .int .i64 x.1.2, .bool false, .string s, .bool false, .bool false, .string s, .int .i64 s.size, .bool false, .bool false, .string s,
      .int .i64 (Lib.indexByte s.data.toList 0), .bool false, .string s, .func (.func 150) #[] #[.pointer (some ⟨w.heap.size + 1, 0, none⟩)], .int .i64 x.1.1, .int .i64 x.1.2, undef, undef, undef, undef], defers := [] }) ?assign ?body ?done ?stop
  case assign =>
    intro l x W K hK
    dsimp only [encP]
    gi_wp2
    exact hK
  case body =>
    rintro l pre ⟨⟨x, y⟩, hxy, hy⟩ W ⟨hv, hb, hB, hall⟩ hlt
    dsimp only at hxy hy ⊢
    have hc := hv.cell
    have hf := hv.frozen
    have HA := Lib.hid hall
    clear hall
    by_cases hd : 12 < y - x
    · have hd1 : (12 : Int) < (y : Int) - x := by omega
      gi_wp2
      refine ⟨(KeepsOthers.setCell _ _ _).from _, rfl, hv.set _, hB.setCell (p := ⟨w.heap.size, 0, none⟩) (Nat.le_refl _) _, ?_⟩
      exact ⟨⟨(x, y), hxy, hy⟩, by simp, hd⟩
    · have hd1 : ¬ (12 : Int) < (y : Int) - x := by omega
      gi_wp2
      refine ⟨KeepsFrom.refl _ _, rfl, hv, hb, hB, ?_⟩
      intro p hp
      rcases List.mem_append.1 hp with hp | hp
      · exact HA.out p hp
      · obtain rfl := List.mem_singleton.1 hp
        show y - x ≤ 12
        omega
  case done =>
    rintro D ys W hD hys ⟨hv, hb, hB, hall⟩ hK
    have hc := hv.cell
    have hf := hv.frozen
    have e0 : checkE s.data.toList = 0 := check_e4 H1.out H2.out H3.out fun p hp => by
      rw [← hys] at hp
      obtain ⟨q, hq, rfl⟩ := List.mem_map.1 hp
      exact hall q hq
    have E0 := Lib.hid e0
    clear e0 hys hall
    gi_wp2
    have hK' := (KeepsOthers.setCell W ⟨w.heap.size, 0, none⟩ (.int .i64 0)).same D _ hK rfl
    refine ⟨by simp, .inl ⟨_, _, rfl, run_takeDeferred hK', ?_⟩⟩
    have hc5 := cell_kept (hv.set (.int .i64 0)).cell (grownBy_putObj' _ D (.deferred none)) (fun r e => by cases e; exact ⟨_, hK', rfl⟩)
    refine ⟨.int .i64 0, ?_, by rw [E0.out], ?_⟩
    · simp [results, Tryz.f137, go_sem, hc5]
    · exact (hB.setCell (p := ⟨w.heap.size, 0, none⟩) (Nat.le_refl _) _).trans (belowK_b (w := w) (Nat.le_refl _) _ D _ _ (by simp at hD; omega) hK' rfl rfl)
  case stop =>
    rintro D c pre W hD hpre ⟨rfl, hv, hB, hex⟩ hK
    have hc := hv.cell
    have e0 : checkE s.data.toList = 9 := check_e3 H1.out H2.out H3.out (by
      obtain ⟨p, hp, hl⟩ := hex
      exact ⟨p.1, hpre.subset (List.mem_map.2 ⟨p, hp, rfl⟩), hl⟩)
    have E0 := Lib.hid e0
    clear e0 hpre hex
    gi_wp2
    refine ⟨by simp, .inl ⟨_, _, rfl, run_takeDeferred hK, ?_⟩⟩
    have hc5 := cell_kept hv.cell (grownBy_putObj' _ D (.deferred none)) (fun r e => by cases e; exact ⟨_, hK, rfl⟩)
    refine ⟨.int .i64 9, ?_, by rw [E0.out], ?_⟩
    · simp [results, Tryz.f137, go_sem, hc5]
    · exact hB.trans (belowK_b (w := w) (Nat.le_refl _) _ D _ _ (by simp at hD; omega) hK rfl rfl)
set_option maxHeartbeats 400000 in
theorem check_any (s : ByteArray) (hs : s.size ≤ 65000) (w : World) :
    Calls Tryz.prog 137 #[.string s] w fun e W' => e = .returned (.int .i64 (checkE s.data.toList)) ∧ Below w.heap.size w W' := by
  by_cases h1 : s.data.toList = []
  · have n1 := isEmpty_yes s h1
    have E := Lib.hid (check_e0 h1)
    clear h1
    go_enter Tryz.func137, Tryz.ntmps137
    go_wp2
    exact bodyPost_ret (v := .int .i64 2) (by simp [results, Tryz.f137, go_sem]) rfl ⟨by rw [E.out], (Below.refl _ _).alloc (Nat.le_refl _) _⟩
  · by_cases h2 : 100 < s.data.toList.length
    · have E := Lib.hid (check_e1 h1 h2)
      have n1 := isEmpty_no s h1
      have n2 : 100 < s.size := by rw [data_len] at h2; omega
      clear h1 h2
      go_enter Tryz.func137, Tryz.ntmps137
      go_wp2
      exact bodyPost_ret (v := .int .i64 9) (by simp [results, Tryz.f137, go_sem]) rfl ⟨by rw [E.out], (Below.refl _ _).alloc (Nat.le_refl _) _⟩
    · by_cases h3 : (0 : UInt8) ∈ s.data.toList
      · have E := Lib.hid (check_e2 h1 h2 h3)
        have n1 := isEmpty_no s h1
        have n2 : s.size ≤ 100 := by rw [data_len] at h2; omega
        have n3 : 0 ≤ Lib.indexByte s.data.toList 0 := by rw [indexByte_eq, if_pos h3]; omega
        clear h1 h2 h3
        go_enter Tryz.func137, Tryz.ntmps137
        go_wp2_with (go_at_call 143; refine (Tryz.strings_IndexByte _ _ _).mono ?_; rintro e w' ⟨rfl, rfl⟩)
        exact bodyPost_ret (v := .int .i64 1) (by simp [results, Tryz.f137, go_sem]) rfl ⟨by rw [E.out], (Below.refl _ _).alloc (Nat.le_refl _) _⟩
      · exact check_walk s hs w h1 h2 h3
end Go.Proofs.YtpmhmippoefcfaaGreatDoor
namespace Go.Proofs.YtpmhmippoefcfaaGreatDoor
open Go.RowKit Go.Shelf
attribute [local go_sem] Oper.semAt_some wide_fn wide_depth
end Go.Proofs.YtpmhmippoefcfaaGreatDoor
namespace Go.Proofs.YtpmhmippoefcfaaGreatDoor
open Go.RowKit Go.Shelf
end Go.Proofs.YtpmhmippoefcfaaGreatDoor
namespace Go.Proofs.YtpmhmippoefcfaaGreatDoor
theorem sp_none_part (l : List UInt8) (k : Nat) (hk : k < l.length) (h : l[k] ≠ 47) : sp k none (l.drop k) = sp (k + 1) (some k) (l.drop (k + 1)) := by
  rw [List.drop_eq_getElem_cons hk, sp, if_neg h]
theorem sp_some_slash (l : List UInt8) (s k : Nat) (hk : k < l.length) (h : l[k] = 47) : sp k (some s) (l.drop k) = (s, k) :: sp (k + 1) none (l.drop (k + 1)) := by
  rw [List.drop_eq_getElem_cons hk, sp, if_pos h]
theorem sp_some_part (l : List UInt8) (s k : Nat) (hk : k < l.length) (h : l[k] ≠ 47) : sp k (some s) (l.drop k) = sp (k + 1) (some s) (l.drop (k + 1)) := by
  rw [List.drop_eq_getElem_cons hk, sp, if_neg h]
theorem sp_some_end (l : List UInt8) (s : Nat) : sp l.length (some s) (l.drop l.length) = [(s, l.length)] := by simp [sp]
/-- The part that has begun, up to place k. -/
def partOf (l : List UInt8) (k : Nat) : Option Nat → List UInt8
  | none => []
  | some s => cutS l (s, k)
theorem cutS_snoc (l : List UInt8) (s k : Nat) (hs : s ≤ k) (hk : k < l.length) : cutS l (s, k + 1) = cutS l (s, k) ++ [l[k]] := by
  unfold cutS
  simp only
  rw [List.take_succ_eq_append_getElem hk, List.drop_append_of_le_length (by simp; omega)]
theorem cutS_self (l : List UInt8) (k : Nat) : cutS l (k, k) = [] := by unfold cutS; simp
theorem cutS_ne (l : List UInt8) (s k : Nat) (hs : s < k) (hk : k ≤ l.length) : cutS l (s, k) ≠ [] := by
  unfold cutS; intro h
  have := congrArg List.length h
  simp at this; omega
theorem partOf_goon {l : List UInt8} {k : Nat} {st : Option Nat} (h2 : ∀ s, st = some s → s < k) (hk : k < l.length) : partOf l k st ++ [l[k]] = partOf l (k + 1) (some (st.getD k)) := by
  cases st with
  | none => simp only [partOf, Option.getD_none]; rw [cutS_snoc l k k (Nat.le_refl _) hk, cutS_self]
  | some s => simp only [partOf, Option.getD_some]; rw [cutS_snoc l s k (Nat.le_of_lt (h2 s rfl)) hk]
theorem pre_eq (l : List UInt8) : Lib.hasPrefix l [47] = match l with | [] => false | c :: _ => c == 47 := by
  cases l with
  | nil => rfl
  | cons c r =>
    unfold Lib.hasPrefix
    simp only [List.isPrefixOf, Bool.and_true]
    rw [Bool.eq_iff_iff, beq_iff_eq, beq_iff_eq]; exact eq_comm
theorem suf_eq (l : List UInt8) (h : l ≠ []) : Lib.hasSuffix l [47] = (l.getLast h == 47) := by
  unfold Lib.hasSuffix
  rw [Bool.eq_iff_iff, List.isSuffixOf_iff_suffix, beq_iff_eq]
  constructor
  · rintro ⟨t, ht⟩; subst ht; simp
  · intro e; exact ⟨l.dropLast, by rw [← e]; exact List.dropLast_concat_getLast h⟩
end Go.Proofs.YtpmhmippoefcfaaGreatDoor
namespace Go.Proofs.YtpmhmippoefcfaaGreatDoor
open Go.RowKit Go.Shelf
end Go.Proofs.YtpmhmippoefcfaaGreatDoor
namespace Go.Proofs.YtpmhmippoefcfaaGreatDoor
open Go.RowKit Go.Shelf
end Go.Proofs.YtpmhmippoefcfaaGreatDoor
namespace Go.Proofs.YtpmhmippoefcfaaGreatDoor
open Go.RowKit Go.Shelf
theorem cutS_len (l : List UInt8) (p : Nat × Nat) (h : p ∈ spans l) : (cutS l p).length = p.2 - p.1 := by
  have := spans_bd l p h
  unfold cutS; simp; omega
end Go.Proofs.YtpmhmippoefcfaaGreatDoor
namespace Go.Proofs.YtpmhmippoefcfaaGreatDoor
/-- What is known of a span of a part: it holds no slash, and a slash, or nothing, is ahead of it. -/
def PartAt (l : List UInt8) (x y : Nat) : Prop := x < y ∧ y ≤ l.length ∧ (x = 0 ∨ l[x - 1]? = some 47) ∧ ∀ j, x ≤ j → j < y → l[j]? ≠ some 47
def AllSlash (l : List UInt8) (y : Nat) : Prop := ∀ j, y ≤ j → j < l.length → l[j]? = some 47
theorem sp_last (l : List UInt8) : ∀ (n i : Nat) (st : Option Nat), l.length - i = n → i ≤ l.length → (st = none → i = 0 ∨ l[i - 1]? = some 47) →
    (∀ s, st = some s → s < i ∧ (s = 0 ∨ l[s - 1]? = some 47) ∧ ∀ j, s ≤ j → j < i → l[j]? ≠ some 47) →
    (sp i st (l.drop i) = [] → AllSlash l i) ∧ (∀ p, (sp i st (l.drop i)).getLast? = some p → PartAt l p.1 p.2 ∧ AllSlash l p.2) := by
  intro n
  induction n with
  | zero =>
    intro i st hn hi h1 h2
    obtain rfl : i = l.length := by omega
    cases st with
    | none => rw [sp_end]; exact ⟨fun _ j a b => (by omega), fun p h => by cases h⟩
    | some s =>
      rw [sp_some_end]
      obtain ⟨a, b, c⟩ := h2 s rfl
      refine ⟨fun h => (by cases h), fun p h => ?_⟩
      simp at h; subst h
      exact ⟨⟨a, Nat.le_refl _, b, c⟩, fun j a b => (by simp at a; omega)⟩
  | succ n ih =>
    intro i st hn hi h1 h2
    have hlt : i < l.length := by omega
    have hget : l[i]? = some l[i] := List.getElem?_eq_getElem hlt
    by_cases hc : l[i] = 47
    · rw [hc] at hget
      have hi1 := ih (i + 1) none (by omega) hlt (fun _ => .inr (by simpa using hget)) (fun s h => by cases h)
      have hall : AllSlash l (i + 1) → AllSlash l i := fun h j a b => by
        rcases Nat.lt_or_ge j (i + 1) with h' | h'
        · have e : j = i := by omega
          rw [e]; exact hget
        · exact h j h' b
      cases st with
      | none =>
        rw [sp_slash l i hlt hc]
        exact ⟨fun h => hall (hi1.1 h), hi1.2⟩
      | some s =>
        rw [sp_some_slash l s i hlt hc]
        obtain ⟨a, b, c⟩ := h2 s rfl
        refine ⟨fun h => (by cases h), fun p h => ?_⟩
        cases hr : sp (i + 1) none (l.drop (i + 1)) with
        | nil =>
          rw [hr] at h; simp at h; subst h
          exact ⟨⟨a, by omega, b, c⟩, hall (hi1.1 hr)⟩
        | cons q r =>
          rw [hr, List.getLast?_cons_cons] at h
          exact hi1.2 p (by rw [hr]; exact h)
    · have hne : l[i]? ≠ some 47 := by rw [hget]; intro e; exact hc (Option.some.inj e)
      cases st with
      | none =>
        rw [sp_none_part l i hlt hc]
        have hh := h1 rfl
        have hi1 := ih (i + 1) (some i) (by omega) hlt (fun h => by cases h) (fun s h => by
          cases h
          refine ⟨Nat.lt_succ_self _, hh, fun j a b => ?_⟩
          have e : j = i := by omega
          rw [e]; exact hne)
        refine ⟨fun h => ?_, hi1.2⟩
        rw [sp_some] at h; cases h
      | some s =>
        rw [sp_some_part l s i hlt hc]
        obtain ⟨a, b, c⟩ := h2 s rfl
        have hi1 := ih (i + 1) (some s) (by omega) hlt (fun h => by cases h) (fun s' h => by
          cases h
          refine ⟨by omega, b, fun j u v => ?_⟩
          rcases Nat.lt_or_ge j i with h' | h'
          · exact c j u h'
          · have e : j = i := by omega
            rw [e]; exact hne)
        refine ⟨fun h => ?_, hi1.2⟩
        rw [sp_some] at h; cases h
theorem spans_none {l : List UInt8} (h : spans l = []) : AllSlash l 0 :=
  (sp_last l _ 0 none rfl (Nat.zero_le _) (fun _ => .inl rfl) (fun s h => by cases h)).1 (by simpa [spans] using h)
end Go.Proofs.YtpmhmippoefcfaaGreatDoor
namespace Go.Proofs.YtpmhmippoefcfaaGreatDoor
open Go.RowKit Go.Shelf
end Go.Proofs.YtpmhmippoefcfaaGreatDoor
namespace Go.Proofs.YtpmhmippoefcfaaGreatDoor
open Go.RowKit Go.Shelf
end Go.Proofs.YtpmhmippoefcfaaGreatDoor
namespace Go.Proofs.YtpmhmippoefcfaaGreatDoor
open Go.RowKit Go.Shelf
end Go.Proofs.YtpmhmippoefcfaaGreatDoor
namespace Go.Proofs.YtpmhmippoefcfaaGreatDoor
/-- The parts, by what is open. -/
def partsG (cur : List UInt8) : List UInt8 → List (List UInt8)
  | [] => if cur = [] then [] else [cur]
  | c :: r => if c = 47 then (if cur = [] then partsG [] r else cur :: partsG [] r) else partsG (cur ++ [c]) r
theorem partsG_eq (l : List UInt8) : ∀ (n i : Nat) (st : Option Nat), l.length - i = n → i ≤ l.length → (∀ s, st = some s → s < i) → (sp i st (l.drop i)).map (cutS l) = partsG (partOf l i st) (l.drop i) := by
  intro n
  induction n with
  | zero =>
    intro i st hn hi hst
    obtain rfl : i = l.length := by omega
    have hd : l.drop l.length = [] := by simp
    cases st with
    | none => rw [sp_end, hd]; rfl
    | some s =>
      have := cutS_ne l s l.length (hst s rfl) (Nat.le_refl _)
      rw [sp_some_end, hd]; simp [partsG, partOf, this]
  | succ n ih =>
    intro i st hn hi hst
    have hlt : i < l.length := by omega
    have hd := List.drop_eq_getElem_cons hlt
    by_cases hc : l[i] = 47
    · have h1 := ih (i + 1) none (by omega) hlt (by simp)
      cases st with
      | none => rw [sp_slash l i hlt hc, h1]; conv => rhs; rw [hd, partsG]
                simp [hc, partOf]
      | some s =>
        have := cutS_ne l s i (hst s rfl) (by omega)
        rw [sp_some_slash l s i hlt hc, List.map_cons, h1]; conv => rhs; rw [hd, partsG]
        simp [hc, partOf, this]
    · have h1 := ih (i + 1) (some (st.getD i)) (by omega) hlt (by
        intro s hs
        cases st with
        | none => simp at hs; omega
        | some s' => have := hst s' rfl; simp at hs; omega)
      have h2 : sp i st (l.drop i) = sp (i + 1) (some (st.getD i)) (l.drop (i + 1)) := by
        cases st with
        | none => exact sp_none_part l i hlt hc
        | some s => exact sp_some_part l s i hlt hc
      rw [h2, h1]
      conv => rhs; rw [hd, partsG, if_neg hc]
      rw [partOf_goon hst hlt]
theorem parts_G (l : List UInt8) : parts l = partsG [] l := by
  have := partsG_eq l _ 0 none rfl (Nat.zero_le _) (by simp)
  simpa [parts, spans, partOf] using this
theorem G_app (a b : List UInt8) : ∀ cur, partsG cur (a ++ 47 :: b) = partsG cur a ++ partsG [] b := by
  induction a with
  | nil => intro cur; simp only [List.nil_append, partsG, if_true]; split <;> simp
  | cons c r ih =>
    intro cur
    simp only [List.cons_append, partsG]
    split
    · split
      · exact ih []
      · rw [ih []]; rfl
    · exact ih _
theorem G_part (b : List UInt8) : ∀ cur, (47 : UInt8) ∉ b → partsG cur b = if cur ++ b = [] then [] else [cur ++ b] := by
  induction b with
  | nil => intro cur _; simp [partsG]
  | cons c r ih =>
    intro cur h
    simp only [List.mem_cons, not_or] at h
    rw [partsG, if_neg (fun e => h.1 e.symm), ih _ h.2]
    simp
theorem parts_app (a b : List UInt8) : parts (a ++ 47 :: b) = parts a ++ parts b := by rw [parts_G, parts_G, parts_G, G_app]
theorem parts_one {b : List UInt8} (h : (47 : UInt8) ∉ b) (hb : b ≠ []) : parts b = [b] := by rw [parts_G, G_part b [] h]; simp [hb]
theorem parts_nil : parts [] = [] := by decide
end Go.Proofs.YtpmhmippoefcfaaGreatDoor
namespace Go.Proofs.YtpmhmippoefcfaaGreatDoor
open Go.RowKit Go.Shelf
end Go.Proofs.YtpmhmippoefcfaaGreatDoor
namespace Go.Proofs.YtpmhmippoefcfaaGreatDoor
open Go.RowKit Go.Shelf
open Go.WideShapes (add_plain)
attribute [local go_sem ↓] Go.wp_at_zero Go.wp_at_succ
def growRenS : Go.Shelf.Ren := ⟨fun | 4 => 146 | n => n, fun | 0 => 0 | 3 => 3 | 4 => 4 | 9 => 9 | 20 => 20 | 22 => 78 | 25 => 9 | n => n, fun | n => n⟩
theorem growLaidS : Lays8.n4 Tryz.prog growRenS := {
  mixed := by kernel_rfl
  f4 := ⟨ "slices.Grow[[]string,string]", by decide, Tryz.func146.trans (congrArg some (by kernel_rfl))⟩
  t0 := Tryz.underlying0
  a0 := Tryz.isAgg0
  z0 := Tryz.sizeOf0
  v0 := Tryz.zeroValue0
  t3 := Tryz.underlying3
  a3 := Tryz.isAgg3
  z3 := Tryz.sizeOf3
  v3 := Tryz.zeroValue3
  t4 := Tryz.underlying4
  a4 := Tryz.isAgg4
  z4 := Tryz.sizeOf4
  v4 := Tryz.zeroValue4
  t9 := Tryz.underlying9
  a9 := Tryz.isAgg9
  z9 := Tryz.sizeOf9
  v9 := Tryz.zeroValue9
  t20 := Tryz.underlying20
  a20 := Tryz.isAgg20
  z20 := Tryz.sizeOf20
  v20 := Tryz.zeroValue20
  t22 := Tryz.underlying78
  a22 := Tryz.isAgg78
  z22 := Tryz.sizeOf78
  v22 := Tryz.zeroValue78 }
def GrowIsS (e : Ending) (W W' : World) : Prop := ∃ v, e = .returned v ∧ W'.ownsRow W.heap.size 9 1 v 0 [] ∧ Below W.heap.size W W'
/-- A new row with room for n. -/
theorem grow_anyS (n : Nat) (hn : n ≤ 1000000) (w : World) : Calls Tryz.prog 146 #[.slice none 0 0, .int .i64 n] w fun e w' => GrowIsS e w w' := by
  obtain ⟨i0, hi0, hz0, hz1, hz2⟩ := info_parts infoStr
  rcases Nat.eq_zero_or_pos n with rfl | hp
  · refine (Any8.slices_Grow_room growLaidS none 0 0 0 w (Nat.le_refl _) (by decide) (by decide) (by decide)).mono ?_
    rintro e w' ⟨rfl, rfl⟩
    exact ⟨_, rfl, ⟨rfl, .inl ⟨rfl, rfl⟩⟩, Below.refl _ _⟩
  · refine (Any8.slices_Grow_grow growLaidS i0 _ hi0 hz0 (by omega) none 0 0 n [] w (Nat.le_refl _) (by omega) (by rw [hz2]; omega) (by omega) (by simp) (fun _ => rfl) (fun a h => by cases h)).mono ?_
    rintro e w' ⟨rfl, rfl⟩
    have h1 := grownCap_ge w (0 + n) 0 9
    have h2 := grownCap_le_maxLen w (0 + n) 0 9 (by unfold maxLen; omega)
    refine ⟨_, rfl, ⟨rfl, .inr ⟨w.heap.size, _, _, rfl, Nat.le_refl _, heap_alloc_new w.drew _, Nat.zero_le _, h2, ?_, by simp⟩⟩, ((Below.refl _ w).drew).alloc (Nat.le_refl _) _⟩
    show (#[] ++ _ ++ _ : Array Value).size = grownCap w (0 + n) 0 9 * 1
    rw [Array.size_append, Array.size_append, size_zeroCells, size_zeroCells]
    show 0 + (0 + n - 0) * 1 + (grownCap w (0 + n) 0 9 - (0 + n)) * 1 = _
    omega
/-- Slices that are to be joined: each value, and what it reads as. -/
abbrev SrcS := Value × List Str
def allLS (S : List SrcS) : List Str := (S.map (·.2)).flatten
theorem allL_succS (S : List SrcS) (k : Nat) (h : k < S.length) : allLS (S.take (k + 1)) = allLS (S.take k) ++ S[k].2 := by
  unfold allLS
  rw [List.take_succ_eq_append_getElem h, List.map_append, List.flatten_append]
  simp
theorem allL_lenS (S : List SrcS) (hs : ∀ x ∈ S, x.2.length ≤ 10001) (h3 : S.length ≤ 3) (k : Nat) : (allLS (S.take k)).length ≤ 30003 := by
  have main : ∀ S : List SrcS, (∀ x ∈ S, x.2.length ≤ 10001) → (allLS S).length ≤ S.length * 10001 := by
    intro S
    induction S with
    | nil => intro _; exact Nat.le_refl _
    | cons a S ih =>
      intro h
      have h1 := ih fun x hx => h x (by simp [hx])
      have h2 := h a (by simp)
      have : (allLS (a :: S)).length = a.2.length + (allLS S).length := by simp [allLS]
      rw [this, List.length_cons]
      omega
  have h1 := main (S.take k) fun x hx => hs x (List.mem_of_mem_take hx)
  have h2 : (S.take k).length ≤ 3 := by rw [List.length_take]; omega
  omega
/-- A row of the call's own, of these texts. -/
def CatIs (l : List Str) (e : Ending) (W W' : World) : Prop := ∃ v, e = .returned v ∧ W'.ownsRow W.heap.size 9 1 v l.length (strs l) ∧ Below W.heap.size W W'
/-- What the joining reads. -/
def SrcOkS (B b off : Nat) (S : List SrcS) (w : World) : Prop := ∀ k (h : k < S.length), w.cell? ⟨b, off + k, none⟩ = some S[k].1 ∧ Rd B 1 S[k].1 S[k].2.length (strs S[k].2) w
set_option maxRecDepth 100000 in
set_option maxHeartbeats 4000000 in
theorem sconcat_any (b off cap : Nat) (S : List SrcS) (w : World) (hb : b < w.heap.size) (hS : SrcOkS w.heap.size b off S w) (hs : ∀ x ∈ S, x.2.length ≤ 10001) (h3 : S.length ≤ 3) :
    Calls Tryz.prog 139 #[.slice (some ⟨b, off, none⟩) S.length cap] w fun e w' => CatIs (allLS S) e w w' := by
  obtain ⟨i0, hi0, hz0, hz1, hz2⟩ := info_parts infoStr
  have HS := Lib.hid hS
  have HL := Lib.hid (allL_lenS S hs h3)
  clear hS hs
  go_enter Tryz.func139, Tryz.ntmps139
  go_wp2_with fail
  go_loop [3, 11] (fun z i => ∃ k : Nat, i = .int .i64 k ∧ k ≤ S.length ∧ z = .int .i64 (allLS (S.take k)).length) (fun _ i => S.length - (intOf i).toNat)
  case atStart => exact ⟨0, rfl, Nat.zero_le _, rfl⟩
  case round =>
    obtain ⟨k, rfl, hk, rfl⟩ := hrel
    have hkl := HL.out k
    by_cases hlt : k < S.length
    · obtain ⟨hc0, hr⟩ := HS.out k hlt
      have hl1 : Hid ((allLS (S.take (k + 1))).length = (allLS (S.take k)).length + S[k].2.length) := Lib.hid (by rw [allL_succS S k hlt, List.length_append])
      have hkl1 := HL.out (k + 1)
      rw [hl1.out] at hkl1
      obtain ⟨ao, cap', e, _, _⟩ := hr.form
      rw [e] at hc0
      clear e hr
      generalize (allLS (S.take k)).length = z at *
      generalize S[k].2.length = y at *
      go_wp2_with fail
      go_round
      case rel => exact ⟨k + 1, by go_num, hlt, by rw [hl1.out]; go_num⟩
      case measure => simp [intOf]; omega
    · have hke : k = S.length := by omega
      have HT : Hid (S.take k = S) := Lib.hid (by rw [hke, List.take_length])
      have hI2 : decide (k < S.length) = false := by simp; omega
      rw [HT.out] at hkl ⊢
      clear hke hlt
      go_wp2_with fail
      refine (grow_anyS (allLS S).length (by omega) _).mono ?_
      rintro e w1 ⟨v, rfl, hown, hb1⟩
      have HO := Lib.hid hown
      have HB := Lib.hid hb1
      clear hown hb1
      go_wp2_with fail
      go_loopw [6, 27] (fun o i wr => ∃ k : Nat, i = .int .i64 k ∧ k ≤ S.length ∧ wr.ownsRow w.heap.size 9 1 o (allLS (S.take k)).length (strs (allLS (S.take k))) ∧ Below w.heap.size w wr) (fun _ i _ => S.length - (intOf i).toNat)
      case atStart => exact ⟨0, rfl, Nat.zero_le _, HO.out, HB.out⟩
      case round =>
        obtain ⟨k, rfl, hk, hown, hBr⟩ := hrel
        have sB := hBr.size
        by_cases hlt : k < S.length
        · obtain ⟨hc0, hr⟩ := HS.out k hlt
          have hc1 := (hBr.cell (p := ⟨b, off + k, none⟩) hb).trans hc0
          have hl1 : Hid ((allLS (S.take (k + 1))).length = (allLS (S.take k)).length + S[k].2.length) := Lib.hid (by rw [allL_succS S k hlt, List.length_append])
          have he1 : Hid (strs (allLS (S.take (k + 1))) = strs (allLS (S.take k)) ++ strs S[k].2) := Lib.hid (by rw [allL_succS S k hlt, strs_app])
          have hkl1 := HL.out (k + 1)
          rw [hl1.out] at hkl1
          have hr1 := Lib.hid (hr.below hBr)
          obtain ⟨ao, cap', e, _, _⟩ := hr.form
          rw [e] at hc1 hr1
          clear e hr hc0
          generalize (allLS (S.take k)).length = z at *
          generalize S[k].2.length = y at *
          go_wp2_with (at_builtin; go_loud (refine wpList_append_rd rfl (.tmp 31) (.tmp 32) 78 rfl w.heap.size 9 i0 _ 1 16 Tryz.underlying78 hi0 hz0 hz1 hz2 rfl (by decide) _ z _ rfl hown w.heap.size _ y (strs S[k].2) rfl hr1.out (strs_one _) (by unfold maxLen; omega) (by omega) sB ?_))
          intro v3 w3 ho3 hgr3
          have hB3 : Below w.heap.size w w3 := hBr.grown hgr3 sB (fun j ej => (hown.lt j ej).1)
          rw [← he1.out, ← hl1.out] at ho3
          go_wp2_with fail
          go_roundw
          case rel => exact ⟨k + 1, by go_num, hlt, ho3, hB3⟩
          case measure => simp [intOf]; omega
        · have hke : k = S.length := by omega
          have HT2 : Hid (S.take k = S) := Lib.hid (by rw [hke, List.take_length])
          have hI2 : decide (k < S.length) = false := by simp; omega
          rw [HT2.out] at hown
          clear hke hlt
          go_wp2_with fail
          go_ret
          exact ⟨_, rfl, hown, hBr⟩
end Go.Proofs.YtpmhmippoefcfaaGreatDoor
namespace Go.Proofs.YtpmhmippoefcfaaGreatDoor
open Go
theorem i64_mask (n : Int) (k : Nat) (hk : k ≤ 6) : bits .and .i64 n (((2 ^ k - 1 : Nat) : Int)) = n % ((2 ^ k : Nat) : Int) := by
  have hk2 : 2 ^ k ≤ 2 ^ 6 := Nat.pow_le_pow_right (by decide) hk
  have hpos : 0 < 2 ^ k := Nat.two_pow_pos k
  have hm : (BitVec.ofInt 64 (((2 ^ k - 1 : Nat) : Int))).toNat = 2 ^ k - 1 := by
    rw [BitVec.ofInt_natCast, BitVec.toNat_ofNat]
    exact Nat.mod_eq_of_lt (by omega)
  have hd : (2 : Nat) ^ 64 = 2 ^ k * 2 ^ (64 - k) := by rw [← Nat.pow_add]; congr 1; omega
  have key : (BitVec.ofInt 64 n &&& BitVec.ofInt 64 (((2 ^ k - 1 : Nat) : Int))).toNat = (n % ((2 ^ 64 : Nat) : Int)).toNat % 2 ^ k := by
    rw [BitVec.toNat_and, BitVec.toNat_ofInt, hm, Nat.and_two_pow_sub_one_eq_mod]
  show IntKind.i64.wrap ((BitVec.ofInt 64 n &&& BitVec.ofInt 64 (((2 ^ k - 1 : Nat) : Int))).toNat : Nat) = _
  rw [key, IntKind.wrap_i64]
  have h1 : (((n % ((2 ^ 64 : Nat) : Int)).toNat % 2 ^ k : Nat) : Int) = n % ((2 ^ k : Nat) : Int) := by
    rw [Int.natCast_emod, Int.toNat_of_nonneg (Int.emod_nonneg _ (by decide))]
    rw [hd, Int.natCast_mul]
    exact Int.emod_emod_of_dvd _ (Int.dvd_mul_right _ _)
  rw [h1]
  have h2 := Int.emod_nonneg n (b := ((2 ^ k : Nat) : Int)) (by omega)
  have h3 := Int.emod_lt_of_pos n (b := ((2 ^ k : Nat) : Int)) (by omega)
  have h4 : ((2 ^ k : Nat) : Int) ≤ 64 := by exact_mod_cast hk2
  omega
theorem i64_and7 (n : Int) : bits .and .i64 n 7 = n % 8 := i64_mask n 3 (by decide)
theorem i64_and63 (n : Int) : bits .and .i64 n 63 = n % 64 := i64_mask n 6 (by decide)
abbrev V (n : Int) : BitVec 64 := BitVec.ofInt 64 n
theorem wrap_back (x : BitVec 64) : IntKind.i64.wrap (x.toNat : Int) = x.toInt := by
  have h := x.isLt
  rw [IntKind.wrap_i64, BitVec.toInt_eq_toNat_cond]
  split <;> omega
theorem and_V (a b : Int) : bits .and .i64 a b = (V a &&& V b).toInt := wrap_back _
theorem or_V (a b : Int) : bits .or .i64 a b = (V a ||| V b).toInt := wrap_back _
theorem andNot_V (a b : Int) : bits .andNot .i64 a b = (V a &&& ~~~ V b).toInt := wrap_back _
theorem V_toInt (x : BitVec 64) : V x.toInt = x := BitVec.ofInt_toInt
theorem toInt_zero_iff (x : BitVec 64) : x.toInt = 0 ↔ x = 0#64 := by
  constructor
  · intro h
    have := V_toInt x
    rw [h] at this
    rw [← this]
    rfl
  · rintro rfl
    rfl
theorem toInt_inj_iff (x y : BitVec 64) : x.toInt = y.toInt ↔ x = y :=
  ⟨fun h => by rw [← V_toInt x, h, V_toInt], fun h => by rw [h]⟩
/-- Whether all bits of want (its lowest three) are among those of rights. -/
def subB (want rights : Int) : Bool := (V want &&& 7#64 &&& ~~~ (V rights &&& 7#64)) == 0#64
/-- Who may what. -/
def mayB (m owner who want : Int) : Bool := if who = 0 then true else subB want (if owner = who then m / 8 else m)
theorem sub_andNot (want rights : Int) : (bits .andNot .i64 (want % 8) (rights % 8) = 0) ↔ subB want rights = true := by
  rw [← i64_and7, ← i64_and7, andNot_V, and_V, and_V, V_toInt, V_toInt, toInt_zero_iff]
  unfold subB
  rw [beq_iff_eq]
  rfl
theorem may_zero (m owner want : Int) : mayB m owner 0 want = true := by unfold mayB; rw [if_pos rfl]
/-- The mode without the bits of the mask. -/
def maskI (m u : Int) : Int := bits .andNot .i64 (m % 64) u
theorem mask_V (m u : Int) : maskI m u = (V m &&& 63#64 &&& ~~~ V u).toInt := by
  unfold maskI
  rw [← i64_and63, andNot_V, and_V, V_toInt]
  rfl
theorem mask_keeps (m u : Int) : bits .or .i64 (maskI m u) (bits .and .i64 m u % 64) = m % 64 := by
  rw [← i64_and63, ← i64_and63, mask_V, or_V, and_V, and_V, and_V, V_toInt, V_toInt, V_toInt, toInt_inj_iff]
  show (V m &&& 63#64 &&& ~~~ V u) ||| (V m &&& V u &&& 63#64) = V m &&& 63#64
  apply BitVec.eq_of_getLsbD_eq
  intro i hi
  simp only [BitVec.getLsbD_and, BitVec.getLsbD_or, BitVec.getLsbD_not, hi, decide_true, Bool.true_and]
  cases (V m).getLsbD i <;> cases (V u).getLsbD i <;> cases (63#64).getLsbD i <;> simp
end Go.Proofs.YtpmhmippoefcfaaGreatDoor
namespace Go.Proofs.YtpmhmippoefcfaaGreatDoor
open Go.RowKit
theorem digit0_any (m : Int) (w : World) : Calls Tryz.prog 136 #[.int .i64 m, .int .i64 0] w fun e w' => e = .returned (.int .i64 (m / 8 % 8)) ∧ w = w' := by
  go_enter Tryz.func136, Tryz.ntmps136
  go_wp2
  go_ret
  exact ⟨ret_int (i64_and7 _), rfl⟩
theorem digit1_any (m : Int) (w : World) : Calls Tryz.prog 136 #[.int .i64 m, .int .i64 1] w fun e w' => e = .returned (.int .i64 (m % 8)) ∧ w = w' := by
  go_enter Tryz.func136, Tryz.ntmps136
  go_wp2
  go_ret
  exact ⟨ret_int (i64_and7 _), rfl⟩
theorem may_any (m owner who want : Int) (w : World) : Calls Tryz.prog 123 #[.int .i64 m, .int .i64 owner, .int .i64 who, .int .i64 want] w fun e w' => e = .returned (.bool (mayB m owner who want)) ∧ w = w' := by
  by_cases h0 : who = 0
  · subst h0
    have H : Hid (mayB m owner 0 want = true) := Lib.hid (may_zero _ _ _)
    go_enter Tryz.func123, Tryz.ntmps123
    go_wp2
    go_ret
    exact ⟨ret_bool H.out.symm, rfl⟩
  · have h0I : (who == 0) = false := by rw [beq_eq_false_iff_ne]; exact h0
    by_cases ho : owner = who
    · have hoI : (owner == who) = true := by rw [beq_iff_eq]; exact ho
      have H : Hid (mayB m owner who want = subB want (m / 8)) := Lib.hid (by unfold mayB; rw [if_neg h0, if_pos ho])
      clear h0 ho
      go_enter Tryz.func123, Tryz.ntmps123
      go_wp2_with fail
      refine (digit1_any _ _).mono ?_
      rintro e w1 ⟨rfl, rfl⟩
      go_wp2_with fail
      refine (digit0_any _ _).mono ?_
      rintro e w1 ⟨rfl, rfl⟩
      go_wp2
      go_ret
      refine ⟨ret_bool ?_, rfl⟩
      rw [H.out, i64_and7, Bool.eq_iff_iff, beq_iff_eq]
      exact sub_andNot _ _
    · have hoI : (owner == who) = false := by rw [beq_eq_false_iff_ne]; exact ho
      have H : Hid (mayB m owner who want = subB want m) := Lib.hid (by unfold mayB; rw [if_neg h0, if_neg ho])
      clear h0 ho
      go_enter Tryz.func123, Tryz.ntmps123
      go_wp2_with fail
      refine (digit1_any _ _).mono ?_
      rintro e w1 ⟨rfl, rfl⟩
      go_wp2
      go_ret
      refine ⟨ret_bool ?_, rfl⟩
      rw [H.out, i64_and7, Bool.eq_iff_iff, beq_iff_eq]
      exact sub_andNot _ _
theorem mask_any (m u : Int) (w : World) : Calls Tryz.prog 86 #[.int .i64 m, .int .i64 u] w fun e w' => e = .returned (.int .i64 (maskI m u)) ∧ w = w' := by
  go_enter Tryz.func86, Tryz.ntmps86
  go_wp2
  go_ret
  exact ⟨ret_int (by unfold maskI; rw [i64_and63]), rfl⟩
end Go.Proofs.YtpmhmippoefcfaaGreatDoor
