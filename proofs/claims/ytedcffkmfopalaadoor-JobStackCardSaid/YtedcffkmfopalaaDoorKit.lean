/-
  Small laws for walks: a region that draws its order, by an invariant over what has come up; such a region in a round of a loop over an iterator.
-/
import Derived.RangeFuncNested
import Derived.RangeFuncBound
import Derived.RangeFuncCalls
import Derived.RangeFuncLeaves
import Derived.RangeFuncBox
import Derived.Shelf.Abstract
import Derived.Shelf.RegionOpen
import Derived.WalkKit
import Derived.OwnWalkIn
import Derived.TacticsInMore
import Derived.LoopNIn
import Derived.LoopIn
import Derived.Lib.Hide
import Derived.Outline
import Derived.Deep.QuietTactic
import Derived.Deep.AppendLies
import Derived.BigQuiet
import Derived.Lib.Strings
import Derived.WalkSmall
namespace Go.Proofs.YtedcffkmfopalaaDoor
open Go.RowKit

theorem wide_fn (f : FuncId) : Fence.wide.fn f = True := rfl
theorem wide_depth : Fence.wide.depth = none := rfl
theorem data_len (s : ByteArray) : s.data.toList.length = s.size := by rw [Array.length_toList]; rfl
theorem take_drop (s : ByteArray) (k : Nat) : List.take (s.size - k) (List.drop k s.data.toList) = List.drop k s.data.toList := by
  apply List.take_of_length_le; rw [List.length_drop, data_len]; exact Nat.le_refl _
theorem ret_int {k : IntKind} {a b : Int} (h : a = b) : Ending.returned (.int k a) = .returned (.int k b) := by rw [h]

theorem count_set_lt (l : List Bool) (i : Nat) (h : l[i]? = some false) : (l.set i true).count false < l.count false := by
  induction l generalizing i with
  | nil => simp at h
  | cons b r ih =>
    cases i with
    | zero => simp at h; subst h; simp
    | succ i => simp at h; have := ih i h; simp [List.count_cons]; omega

theorem wpAny_inv {P : Program} {ops : Array Oper} {Q : Exit → Act → World → Prop} (I : Array Bool → Act → World → Prop)
    (hstep : ∀ (listed : Array Bool) (i : Nat) (o : Oper) (a : Act) (w : World) (K : Act → World → Prop), listed.size = ops.size → i ∈ Region.ready .any ops listed → ops[i]? = some o → I listed a w →
      (∀ a' w', I (listed.setIfInBounds i true) a' w' → K a' w') → if Region.wanted o (yielded ops a.tmps) = true then o.wp P a w K Q else K (a.put o.dst undef) w)
    (hdone : ∀ (listed : Array Bool) (a : Act) (w : World), listed.size = ops.size → I listed a w → Region.ready .any ops listed = [] → Q .normal a w) :
    ∀ (fuel : Nat) (listed : Array Bool) (a : Act) (w : World), listed.size = ops.size → listed.toList.count false ≤ fuel → I listed a w → wpAny P .any ops Q fuel listed a w := by
  intro fuel
  induction fuel with
  | zero =>
    intro listed a w hs hc hI
    have hr : Region.ready .any ops listed = [] := by
      apply List.eq_nil_iff_forall_not_mem.2
      intro i hi
      obtain ⟨h1, o, ho, _⟩ := mem_ready.1 hi
      have hlt : i < listed.size := by rw [hs]; exact (Array.getElem?_eq_some_iff.1 ho).1
      have h2 : listed.toList[i]? = some false := by
        rw [Array.getElem?_toList, Array.getElem?_eq_getElem hlt]
        simpa [Array.getD, hlt] using h1
      have := List.count_pos_iff.2 (List.mem_of_getElem? h2)
      omega
    exact ⟨hr, hdone _ _ _ hs hI hr⟩
  | succ fuel ih =>
    intro listed a w hs hc hI
    refine ⟨fun hr => hdone _ _ _ hs hI hr, fun i hi => ?_⟩
    obtain ⟨h1, o, ho, _⟩ := mem_ready.1 hi
    have hlt : i < listed.size := by rw [hs]; exact (Array.getElem?_eq_some_iff.1 ho).1
    have h2 : listed.toList[i]? = some false := by
      rw [Array.getElem?_toList, Array.getElem?_eq_getElem hlt]
      simpa [Array.getD, hlt] using h1
    have h3 := count_set_lt _ _ h2
    refine wpOp_step ho fun K hK => hstep listed i o a w K hs hi ho hI fun a' w' hI' => hK a' w' (ih _ a' w' (by simp [hs]) ?_ hI')
    rw [Array.toList_setIfInBounds]
    omega

/-- Where no operation waits for a later one, nothing may come up only when all have. -/
theorem ready_all {ops : Array Oper} {listed : Array Bool} (hb : ((List.range ops.size).all fun i => match ops[i]? with | some o => o.after.all fun e => decide (e.on < i) | none => true) = true)
    (hs : listed.size = ops.size) (hr : Region.ready .any ops listed = []) : ∀ i, i < ops.size → listed.getD i false = true := by
  intro i
  induction i using Nat.strongRecOn with
  | ind i ih =>
    intro hi
    have hg : ∀ j, j < ops.size → listed.getD j true = listed.getD j false := fun j hj => by
      rw [← hs] at hj; simp [Array.getD, hj]
    cases hc : listed.getD i false with
    | true => rfl
    | false =>
      have ho : ops[i]? = some ops[i] := Array.getElem?_eq_getElem hi
      have h1 := List.all_eq_true.1 hb i (List.mem_range.2 hi)
      rw [ho] at h1
      simp only [Array.all_eq_true'] at h1
      have : i ∈ Region.ready .any ops listed := mem_ready.2 ⟨by rw [hg i hi]; exact hc, ops[i], ho, fun e he _ => by
        have h2 : e.on < i := of_decide_eq_true (h1 e he)
        exact ih e.on h2 (Nat.lt_trans h2 hi)⟩
      rw [hr] at this; cases this

/-- What holds of a list of operations at the wide fence holds of it in a round. -/
theorem opsIn_round {P : Program} {ops : Array Oper} {Q : Exit → Act → World → Prop} (l n : Nat) (hd : (ops.toList.all fun o => match o.op with | .defer _ => false | _ => true) = true) (hno : ¬ LetsOut Q) :
    ∀ (L : List Nat) (a : Act) (w : World), wpOps P ops Q L a w → wpOpsIn (Fence.wide.inRound l) n P ops Q L a w := by
  intro L
  induction L with
  | nil => intro a w h; exact h
  | cons i rest ih =>
    intro a w h
    unfold wpOps at h
    unfold wpOpsIn
    cases ho : ops[i]? with
    | none => rw [ho] at h; exact ih _ _ h
    | some o =>
      rw [ho] at h
      simp only at h ⊢
      have hnd : ∀ c, o.op ≠ .defer c := by
        intro c hc
        have := List.all_eq_true.1 hd o (List.mem_of_getElem? (by rw [Array.getElem?_toList]; exact ho))
        rw [hc] at this; cases this
      split
      · rename_i hw
        rw [if_pos hw] at h
        rcases h with h | ⟨_, h⟩
        · unfold Oper.wp at h
          refine ⟨fun _ _ => trivial, ?_⟩
          rw [Oper.semAt_eq _ _ _ hnd]
          generalize (execOp a.eval o).run P w = r at *
          cases r with
          | ok x w' =>
            cases x with
            | value v => exact ih _ _ h
            | skip => exact ih _ _ h
            | defer d => exact ih _ _ h
            | enter f args =>
              refine ⟨fun hh => (by cases hh), ?_⟩
              refine CallsIn.mono (CallsIn.inRound l (callsIn_wide.2 h)) fun e w'' he => ?_
              cases e with
              | returned v => exact ih _ _ he
              | panicked c => exact he
              | outgrown => exact he
            | row row args =>
              refine ⟨fun hh => (by cases hh), ?_⟩
              intro c cs _
              obtain ⟨v, w1, hr, hs⟩ := h c cs
              exact ⟨v, w1, ih _ _ hr, stepsIn_wide.2 hs⟩
            | _ => exact h.elim
          | halt x w' => cases x <;> first | exact h | exact h.elim
        · exact (hno h).elim
      · rename_i hw
        rw [if_neg hw] at h
        exact ⟨fun _ _ => trivial, ih _ _ h⟩

theorem region_round {P : Program} {ops : Array Oper} {Q : Exit → Act → World → Prop} {l n id : Nat} {a : Act} {w : World} (hm : P.follows .mixedOrders = true)
    (hd : (ops.toList.all fun o => match o.op with | .defer _ => false | _ => true) = true) (hno : ¬ LetsOut Q)
    (h : wpAny P .any ops Q ops.size (Array.replicate ops.size false) a w.drew) : (Code.region id ops true).wpIn (Fence.wide.inRound l) n P Q a w :=
  wpIn_region_draw fun t => by
    simp only [Region.schedule, hm, Bool.true_or, if_true]
    exact opsIn_round l n hd hno _ _ _ (wpAny_sound ops.size t _ a _ h)

theorem region_round_inv {P : Program} {ops : Array Oper} {Q : Exit → Act → World → Prop} {l n id : Nat} {a : Act} {w : World} (I : Array Bool → Act → World → Prop) (hm : P.follows .mixedOrders = true)
    (hd : (ops.toList.all fun o => match o.op with | .defer _ => false | _ => true) = true) (hno : ¬ LetsOut Q)
    (h0 : I (Array.replicate ops.size false) a w.drew)
    (hstep : ∀ (listed : Array Bool) (i : Nat) (o : Oper) (a : Act) (w : World) (K : Act → World → Prop), listed.size = ops.size → i ∈ Region.ready .any ops listed → ops[i]? = some o → I listed a w →
      (∀ a' w', I (listed.setIfInBounds i true) a' w' → K a' w') → if Region.wanted o (yielded ops a.tmps) = true then o.wp P a w K Q else K (a.put o.dst undef) w)
    (hdone : ∀ (listed : Array Bool) (a : Act) (w : World), listed.size = ops.size → I listed a w → Region.ready .any ops listed = [] → Q .normal a w) :
    (Code.region id ops true).wpIn (Fence.wide.inRound l) n P Q a w :=
  region_round hm hd hno (wpAny_inv I hstep hdone _ _ _ _ (by simp) (by simp) h0)

/-- A piece of a text, as a list. -/
theorem extract_eq (s : ByteArray) (x y : Nat) : s.extract x y = ⟨((s.data.toList.take y).drop x).toArray⟩ := by
  have h : (s.extract x y).data.toList = (s.data.toList.take y).drop x := by rw [Lib.extract_data, List.drop_take]
  rw [← h]
theorem ownsRow_drewN {W : World} {b : Nat} {e : TypeId} {z : Nat} {v : Value} {n : Nat} {xs : List Value} (h : W.ownsRow b e z v n xs) (k : Nat) : (W.drewN k).ownsRow b e z v n xs := h
theorem boxed_drewN {W : World} {B : Nat} {t : TypeId} {v : Value} (h : Boxed W B t v) (k : Nat) : Boxed (W.drewN k) B t v := h
theorem one_new (W : World) (t : TypeId) (x : Value) : ∀ (j : Nat) (u : Value), [x][j]? = some u → (W.alloc (.cells #[x] t)).cell? ((⟨W.heap.size, 0, none⟩ : Addr).add j) = some u := by
  intro j u hj
  cases j with
  | zero => simp only [List.getElem?_cons_zero, Option.some.injEq] at hj; subst hj; exact (Boxed.new W t _).cell
  | succ j => simp at hj
theorem one_str (s : ByteArray) : ∀ u ∈ [Value.string s], u.oneCell' = true := by
  intro u hu; simp only [List.mem_singleton] at hu; subst hu; rfl
theorem below_appended {B : Nat} {w W w1 : World} {e : TypeId} {size k : Nat} {v : Value} {xs : List Value} {tmp : Obj} (hle : B ≤ w.heap.size) (hB : Below B w W) (hrow : W.ownsRow B e size v k xs) (hgrow : (W.alloc tmp).grownBy w1 v.ownBlock) : Below B w w1 := by
  have hsz := Nat.le_trans hle hB.size
  refine (hB.alloc hsz tmp).grown hgrow (by simp; omega) fun j ej => ?_
  rcases hrow.2 with ⟨rfl, _⟩ | ⟨g, cap, cur, rfl, hb, _, _⟩
  · simp [Value.ownBlock] at ej
  · obtain rfl : g = j := by simpa [Value.ownBlock] using ej
    exact hb
theorem bf {a b : Bool} (h : a = true → b = true) (hb : b = false) : a = false := by cases a <;> simp_all
/-- What a round of a loop over the parts keeps: one box. -/
def KeepsBox (B : Nat) (W W' : World) : Prop := W'.cell? ⟨B, 0, none⟩ = W.cell? ⟨B, 0, none⟩
theorem keepsBox_t {B : Nat} {X Y Z : World} (h : KeepsBox B X Y) (k : KeepsBox B Y Z) : KeepsBox B X Z := Eq.trans k h
theorem keepsBox_b {B h : Nat} (hB : B < h) (W : World) (l : Nat) (o o' : Obj) (hl : h ≤ l) (_ : W.heap[l]? = some o) (_ : o.isCells = false) (_ : o.isWalk = false) : KeepsBox B W (W.putObj l o') := by
  unfold KeepsBox World.cell?
  rw [World.putObj_heap_other (by simp; omega)]
end Go.Proofs.YtedcffkmfopalaaDoor
