/-
  A statement's state; the small contracts, of whatever reads as these nodes. What is read of a world reads the same where all its blocks are as they were: for arguments of any of the types of a closed list. Arguments that are slices, read as lists of cells, whatever their elements are. Arguments that are disks, and nodes. What the row's variables give a walk: the ten sentinels, each a pointer of its own, and the handle of type error; a world for the witnesses; an argument that says who acts. The example of the statements on changes, walked.
-/
import Derived.RangeFuncNested
import Derived.RangeFuncBound
import Derived.RangeFuncCalls
import Derived.RangeFuncLeaves
import Derived.RangeFuncBox
import Derived.Shelf.Abstract
import Derived.Shelf.RegionOpen
import Derived.WalkKit
import Derived.OwnWalkIn
import Derived.TacticsInMore
import Derived.LoopNIn
import Derived.LoopIn
import Derived.Lib.Hide
import Derived.Outline
import Derived.Deep.QuietTactic
import Derived.Deep.AppendLies
import Derived.BigQuiet
import Derived.Lib.Strings
import Derived.WalkSmall
import Derived.Shelf.Small.Strs
import Derived.Shelf.Strings.Search1
import Derived.Shelf.Strings.Prefix
import Derived.Laws.AppendOwn
import Derived.Laws.OwnMore
import Derived.Laws.AppendOwnNone
import Derived.WideShapes
import Derived.Lib.TrimByte
import Derived.Lib.Bytealg
import Derived.Lib.QuietBelow
import Derived.Deep.DrawnRows
import Derived.Laws.Cover1
import Derived.WalkMore
import Derived.Shelf.Spec.SlicesGrow
import Derived.StillTailTactics
import Derived.Laws.BitsLemmas
import Derived.Laws.RangeAny
import Derived.Laws.Runes
import Derived.Lib.Builder
import Derived.Deep.WholeRow
import Derived.Lib.OthersKept
import Derived.Shelf.SlSorted.Search
import Derived.LaidEql
import Derived.Stop.Asserts
import Derived.RowKitTokens
import Derived.Deep.RegionHeld3
import Derived.Deep.RegionLaw
import Derived.Handy
import Derived.Laws.IdiomCopy
import Derived.Lib.SliceRun
import Derived.Laws.ResultCell
import Derived.Deep.LoopGhost
import Derived.Deep.DeepCutAuto
import Derived.Deep.MidRow
import Derived.BigRegion
import Derived.ChangeSlices
import Derived.OpenShut
import Derived.Below
import Derived.Deep.Slices
import Derived.Deep.Fields
import Derived.LaidLaws
import Derived.LaidHandle
import Derived.Stop.Joined
import Derived.Stop.LaidErr
import Derived.Lay
import Derived.Test.YtpmhmippoefcfaaGreatDoorProg
import Derived.Test.YtpmhmippoefcfaaGreatDoorRows
import Derived.Test.YtpmhmippoefcfaaGreatDoorShelf
import Derived.Test.YtpmhmippoefcfaaGreatDoorB01
import Derived.Test.YtpmhmippoefcfaaGreatDoorB02
import Derived.Test.YtpmhmippoefcfaaGreatDoorB03
import Derived.Test.YtpmhmippoefcfaaGreatDoorB04
import Derived.Test.YtpmhmippoefcfaaGreatDoorB05
import Derived.Test.YtpmhmippoefcfaaGreatDoorB07
import Derived.Test.YtpmhmippoefcfaaGreatDoorB08
import Derived.Test.YtpmhmippoefcfaaGreatDoorB09
import Derived.Test.YtpmhmippoefcfaaGreatDoorB10
import Derived.Test.YtpmhmippoefcfaaGreatDoorB11
import Derived.Test.YtpmhmippoefcfaaGreatDoorB12
import Derived.Test.YtpmhmippoefcfaaGreatDoorB13
import Derived.Test.YtpmhmippoefcfaaGreatDoorB14
import Derived.Test.YtpmhmippoefcfaaGreatDoorB16
import Derived.Test.YtpmhmippoefcfaaGreatDoorB17
import Derived.Test.YtpmhmippoefcfaaGreatDoorB18
import Derived.Test.YtpmhmippoefcfaaGreatDoorB21
import Derived.Test.YtpmhmippoefcfaaGreatDoorB23
namespace Go.Proofs.YtpmhmippoefcfaaGreatDoor
open Go.RowKit Go.Shelf
attribute [local go_sem ↓] Go.wp_at_zero Go.wp_at_succ
/-- A statement's state: blocks of its own, the disks that it reads, the nodes. -/
structure Sn (w : World) (B : List Bl) (G : List (List NodeL × Value)) (N : List (NodeL × Value)) (W : World) : Prop where
  bel : Below w.heap.size w W
  blk : ∀ x ∈ B, W.heap[x.1]? = some (.cells x.2.1 x.2.2 (0, 0))
  gv : ∀ x ∈ G, GivesN x.1 x.2 W
  nv : ∀ x ∈ N, RdNm W.heap.size (x.1, x.2) W
theorem gives_no {l : List NodeL} {v : Value} {W : World} (h : GivesN l v W) : GivesX (fun _ => False) l v W := by
  obtain ⟨m, a, b⟩ := h
  exact ⟨m, a, b, fun g hg => hg.elim⟩
theorem old_no {W : World} : Old (fun _ => False) W := fun _ h => h.elim
section
variable {w W W' : World} {B : List Bl} {G : List (List NodeL × Value)} {N : List (NodeL × Value)}
theorem Sn.start {l : List NodeL} {v : Value} (hG : GivesN l v w) : Sn w [] [(l, v)] [] w := ⟨Below.refl _ _, (fun _ h => by cases h), (fun x hx => by rw [List.mem_singleton] at hx; subst hx; exact hG), (fun _ h => by cases h)⟩
theorem Sn.none : Sn w [] [] [] w := ⟨Below.refl _ _, (fun _ h => by cases h), (fun _ h => by cases h), (fun _ h => by cases h)⟩
theorem Sn.lt (h : Sn w B G N W) {x : Bl} (hx : x ∈ B) : x.1 < W.heap.size := (Array.getElem?_eq_some_iff.1 (h.blk x hx)).1
theorem Sn.call (h : Sn w B G N W) (hb : Below W.heap.size W W') : Sn w B G N W' :=
  ⟨ret_tr h.bel hb, fun x hx => (hb.block _ (h.lt hx)).trans (h.blk x hx), fun x hx => (h.gv x hx).keep hb, fun x hx => rdnm_keep (h.nv x hx) hb⟩
theorem Sn.news (h : Sn w B G N W) (hb : Below W.heap.size W W') (C : List Bl) (hC : ∀ x ∈ C, W'.heap[x.1]? = some (.cells x.2.1 x.2.2 (0, 0))) : Sn w (B ++ C) G N W' :=
  ⟨ret_tr h.bel hb, fun x hx => by
    rcases List.mem_append.1 hx with hx | hx
    · exact (hb.block _ (h.lt hx)).trans (h.blk x hx)
    · exact hC x hx, fun x hx => (h.gv x hx).keep hb, fun x hx => rdnm_keep (h.nv x hx) hb⟩
theorem Sn.new1 (h : Sn w B G N W) (hb : Below W.heap.size W W') {cs0 : Array Value} {t0 : TypeId} (h0 : W'.heap[W.heap.size]? = some (.cells cs0 t0 (0, 0))) : Sn w (B ++ [(W.heap.size, cs0, t0)]) G N W' :=
  h.news hb _ (fun x hx => by
    simp only [List.mem_cons, List.not_mem_nil, or_false] at hx
    subst hx
    exact h0)
theorem Sn.new2 (h : Sn w B G N W) (hb : Below W.heap.size W W') {cs0 cs1 : Array Value} {t0 t1 : TypeId} (h0 : W'.heap[W.heap.size]? = some (.cells cs0 t0 (0, 0))) (h1 : W'.heap[W.heap.size + 1]? = some (.cells cs1 t1 (0, 0))) : Sn w (B ++ [(W.heap.size, cs0, t0), (W.heap.size + 1, cs1, t1)]) G N W' :=
  h.news hb _ (fun x hx => by
    simp only [List.mem_cons, List.not_mem_nil, or_false] at hx
    rcases hx with rfl | rfl
    · exact h0
    · exact h1)
theorem Sn.new3 (h : Sn w B G N W) (hb : Below W.heap.size W W') {cs0 cs1 cs2 : Array Value} {t0 t1 t2 : TypeId} (h0 : W'.heap[W.heap.size]? = some (.cells cs0 t0 (0, 0))) (h1 : W'.heap[W.heap.size + 1]? = some (.cells cs1 t1 (0, 0))) (h2 : W'.heap[W.heap.size + 2]? = some (.cells cs2 t2 (0, 0))) : Sn w (B ++ [(W.heap.size, cs0, t0), (W.heap.size + 1, cs1, t1), (W.heap.size + 2, cs2, t2)]) G N W' :=
  h.news hb _ (fun x hx => by
    simp only [List.mem_cons, List.not_mem_nil, or_false] at hx
    rcases hx with rfl | rfl | rfl
    · exact h0
    · exact h1
    · exact h2)
theorem Sn.at (h : Sn w B G N W) (k : Nat) {b : Nat} {cs : Array Value} {t : TypeId} (hk : B[k]? = some (b, cs, t)) : W.heap[b]? = some (.cells cs t (0, 0)) := h.blk _ (List.mem_of_getElem? hk)
theorem Sn.at' (h : Sn w B G N W) (hb : Below W.heap.size W W') (k : Nat) {b : Nat} {cs : Array Value} {t : TypeId} (hk : B[k]? = some (b, cs, t)) : W'.heap[b]? = some (.cells cs t (0, 0)) := (h.call hb).at k hk
theorem Sn.addG (h : Sn w B G N W) {l : List NodeL} {v : Value} (hg : GivesN l v W) : Sn w B (G ++ [(l, v)]) N W :=
  ⟨h.bel, h.blk, fun x hx => by
    rcases List.mem_append.1 hx with hx | hx
    · exact h.gv x hx
    · rw [List.mem_singleton] at hx; subst hx; exact hg, h.nv⟩
theorem Sn.addN (h : Sn w B G N W) {n : NodeL} {v : Value} (hn : RdNm W.heap.size (n, v) W) : Sn w B G (N ++ [(n, v)]) W :=
  ⟨h.bel, h.blk, h.gv, fun x hx => by
    rcases List.mem_append.1 hx with hx | hx
    · exact h.nv x hx
    · rw [List.mem_singleton] at hx; subst hx; exact hn⟩
theorem Sn.g (h : Sn w B G N W) (k : Nat) {l : List NodeL} {v : Value} (hk : G[k]? = some (l, v)) : GivesN l v W := h.gv _ (List.mem_of_getElem? hk)
theorem Sn.n (h : Sn w B G N W) (k : Nat) {n : NodeL} {v : Value} (hk : N[k]? = some (n, v)) : RdNm W.heap.size (n, v) W := h.nv _ (List.mem_of_getElem? hk)
theorem Sn.gx (h : Sn w B G N W) (k : Nat) {l : List NodeL} {v : Value} (hk : G[k]? = some (l, v)) : GivesX (fun _ => False) l v W := gives_no (h.g k hk)
theorem Sn.st (h : Sn w B G N W) : St (fun _ => False) W [] G [] W := St.start old_no (fun x hx => gives_no (h.gv x hx)) (fun _ h => by cases h)
theorem Sn.of {X : Nat → Prop} {C : List Bl} {G' : List (List NodeL × Value)} (h : Sn w B G N W) (t : St X W C G' [] W') : Sn w (B ++ C) G' N W' :=
  ⟨ret_tr h.bel t.bel, fun x hx => by
    rcases List.mem_append.1 hx with hx | hx
    · exact (t.bel.block _ (h.lt hx)).trans (h.blk x hx)
    · exact (t.blk x hx).1, fun x hx => (t.gv x hx).gives, fun x hx => rdnm_keep (h.nv x hx) t.bel⟩
end
/-- A disk, told with an error. -/
def ChgT (l : List NodeL) (n most room : Int) (e : Ending) (w w' : World) : Prop :=
  ∃ ao cap, e = .returned (.tuple #[diskV ao l.length cap most room, .int .i64 n]) ∧ GivesN l (.slice ao l.length cap) w' ∧ Below w.heap.size w w'
theorem chgT {X : Nat → Prop} {R : ChgL} {most room : Int} {e : Ending} {w w' : World} (h : ChgIs X R most room e w w') : ChgT R.1 R.2 most room e w w' := by
  obtain ⟨ao, cap, h1, h2, h3⟩ := h
  exact ⟨ao, cap, h1, h2.gives, h3⟩
/-- .. and a number. -/
def MakT (l : List NodeL) (i n most room : Int) (e : Ending) (w w' : World) : Prop :=
  ∃ ao cap, e = .returned (.tuple #[diskV ao l.length cap most room, .int .i64 i, .int .i64 n]) ∧ GivesN l (.slice ao l.length cap) w' ∧ Below w.heap.size w w'
theorem makT {X : Nat → Prop} {R : MakL} {most room : Int} {e : Ending} {w w' : World} (h : MakIs X R most room e w w') : MakT R.1 R.2.1 R.2.2 most room e w w' := by
  obtain ⟨ao, cap, h1, h2, h3⟩ := h
  exact ⟨ao, cap, h1, h2.gives, h3⟩
theorem right_g (l : List NodeL) (most room : Int) (v : Value) (W : World) (hg : GivesN l v W) (hfit : FitD l) :
    Calls Tryz.prog 10 #[.agg #[v, .int .i64 most, .int .i64 room]] W fun e w' => e = .returned (.bool (rightQ l most room)) ∧ Below W.heap.size W w' := by
  obtain ⟨m, rfl, h⟩ := hg
  exact right_q v m most room W h hfit
theorem short_n (xs : List Str) (n : Nat) (hn : xs.length = n) (hm : n ≤ 2) (W : World) {g : Nat} {t : TypeId} {fr : Nat × Nat} (h : W.heap[g]? = some (.cells (strs xs).toArray t fr)) :
    Calls Tryz.prog 11 #[.slice (some ⟨g, 0, none⟩) n n] W fun e w' => e = .returned (.bool (shortB xs)) ∧ W = w' := by
  subst hn
  refine short_any W.heap.size _ xs W (rd_block h ?_ (Nat.le_trans hm (by decide)) (Array.getElem?_eq_some_iff.1 h).1)
  unfold strs
  simp
end Go.Proofs.YtpmhmippoefcfaaGreatDoor
namespace Go.Proofs.YtpmhmippoefcfaaGreatDoor
open Go.ChangeShapes Go.WideShapes Go.RowKit
section
variable {H : Type} {enc : TypeId × Value → H} {P : Program}
/-- A list of types that holds what they are made of, no slice among them of elements without cells. -/
def closedTypes (P : Program) (L : List TypeId) : Bool := L.all fun t => match P.underlying t with
  | some (.slice e) => (P.cellsOf e != 0) && L.contains e
  | some (.pointer e) => L.contains e
  | some (.struct fs) => fs.toList.all fun f => L.contains f.type
  | some (.array _ e) => L.contains e
  | some (.map _ e) => L.contains e
  | _ => true
theorem mapM_keep {α β : Type} {f g : α → Option β} : ∀ {l : List α} {ys : List β}, (∀ a ∈ l, ∀ y, f a = some y → g a = some y) → l.mapM f = some ys → l.mapM g = some ys := by
  intro l
  induction l with
  | nil => intro ys _ h; simpa using h
  | cons a l ih =>
    intro ys hfg h
    rw [List.mapM_cons] at h ⊢
    cases hfa : f a with
    | none => rw [hfa] at h; cases h
    | some b =>
      rw [hfa] at h
      cases hl : l.mapM f with
      | none => rw [hl] at h; cases h
      | some bs =>
        rw [hl] at h
        rw [hfg a (by simp) b hfa, ih (fun x hx => hfg x (by simp [hx])) hl]
        exact h
theorem cell_lt {W : World} {p : Addr} {v : Value} (h : W.cell? p = some v) : p.block < W.heap.size := by
  unfold World.cell? at h
  rcases Nat.lt_or_ge p.block W.heap.size with h1 | h1
  · exact h1
  · rw [Array.getElem?_eq_none h1] at h; simp at h
theorem cells_keep {W W' : World} (hb : Below W.heap.size W W') {a : Addr} {n : Nat} {cs : List Value} (h : W.cells? 0 a n = some cs) : W'.cells? 0 a n = some cs := by
  unfold World.cells? at h ⊢
  rw [if_pos (Nat.zero_le _)] at h ⊢
  exact mapM_keep (fun i _ y hy => (hb.cell (cell_lt hy)).trans hy) h
theorem cells_lt {W : World} {a : Addr} {n : Nat} {cs : List Value} (h : W.cells? 0 a n = some cs) (hn : n ≠ 0) : a.block < W.heap.size := by
  obtain ⟨_, hl, hi⟩ := World.cells?_some h
  have h0 := hi 0 (by omega)
  rw [List.getElem?_eq_getElem (by omega)] at h0
  have := cell_lt h0
  simpa [Addr.add] using this
theorem trod_keep {W W' : World} (hb : Below W.heap.size W W') (L : List TypeId) (hL : closedTypes P L = true) :
    ∀ (fuel : Nat) (t : TypeId), t ∈ L → ∀ (cs : List Value) (x : DataW H × List MemPlace), DataW.trod enc P W 0 (fun _ => true) true fuel t cs = some x →
      DataW.trod enc P W' 0 (fun b => decide (b < W.heap.size)) true fuel t cs = some x := by
  intro fuel
  induction fuel with
  | zero => intro t _ cs x h; simp [DataW.trod] at h
  | succ n ih =>
    intro t ht cs x h
    have hc := List.all_eq_true.1 hL t ht
    unfold DataW.trod at h ⊢
    generalize P.underlying t = u at *
    split at h
    case h_6 _ e a =>
      obtain ⟨y, hy, rfl⟩ := Option.map_eq_some_iff.1 h
      obtain ⟨c, hc1, hc2⟩ := Option.bind_eq_some_iff.1 hy
      refine Option.map_eq_some_iff.2 ⟨y, Option.bind_eq_some_iff.2 ⟨c, cells_keep hb hc1, ?_⟩, rfl⟩
      exact ih e (by simpa using hc) _ _ hc2
    case h_8 _ e a len cap =>
      simp only [Bool.and_eq_true, bne_iff_ne, ne_eq] at hc
      obtain ⟨hz, he⟩ := hc
      have he' : e ∈ L := by simpa using he
      have each : ∀ (i : Nat) y, (W.cells? 0 (a.add (i * P.cellsOf e)) (P.cellsOf e)).bind (DataW.trod enc P W 0 (fun _ => true) true n e) = some y →
          (W'.cells? 0 (a.add (i * P.cellsOf e)) (P.cellsOf e)).bind (DataW.trod enc P W' 0 (fun b => decide (b < W.heap.size)) true n e) = some y := by
        intro i y hy
        obtain ⟨c, hc1, hc2⟩ := Option.bind_eq_some_iff.1 hy
        exact Option.bind_eq_some_iff.2 ⟨c, cells_keep hb hc1, ih e he' _ _ hc2⟩
      simp only at h ⊢
      split at h
      · rename_i hcond
        rw [if_pos hcond]
        obtain ⟨elems, h1, h2⟩ := Option.bind_eq_some_iff.1 h
        simp only [if_true] at h2
        obtain ⟨rest, h3, h4⟩ := Option.map_eq_some_iff.1 h2
        refine Option.bind_eq_some_iff.2 ⟨elems, mapM_keep (fun i _ y hy => each i y hy) h1, Option.map_eq_some_iff.2 ⟨rest, ?_, h4⟩⟩
        by_cases hlt : a.block < W.heap.size
        · rw [if_pos (by simpa using hlt)]
          exact mapM_keep (fun i _ y hy => each (len + i) y hy) h3
        · rw [if_neg (by simpa using hlt)]
          have hno : cap - len = 0 := by
            rcases Nat.eq_zero_or_pos (cap - len) with h0 | h0
            · exact h0
            · exfalso
              obtain ⟨m, hm⟩ : ∃ m, cap - len = m + 1 := ⟨cap - len - 1, by omega⟩
              have hr := mapM_some_get h3 0 0 (by simp [hm])
              have hlen := mapM_some_length h3
              rw [List.getElem?_eq_getElem (by simp [hm] at hlen; omega)] at hr
              obtain ⟨c, hc1, _⟩ := Option.bind_eq_some_iff.1 hr
              exact hlt (by have := cells_lt hc1 hz; rwa [block_add] at this)
          rw [hno] at h3
          simpa using h3
      · cases h
    case h_9 _ cs' fs =>
      split at h
      · rename_i hl
        rw [if_pos hl]
        obtain ⟨xs, h1, h2⟩ := Option.map_eq_some_iff.1 h
        refine Option.map_eq_some_iff.2 ⟨xs, mapM_keep (fun f hf y hy => ih f.type ?_ _ _ hy) h1, h2⟩
        have := List.all_eq_true.1 hc f hf
        simpa using this
      · cases h
    case h_10 _ cs' m e =>
      split at h
      · rename_i hl
        rw [if_pos hl]
        obtain ⟨xs, h1, h2⟩ := Option.map_eq_some_iff.1 h
        exact Option.map_eq_some_iff.2 ⟨xs, mapM_keep (fun i _ y hy => ih e (by simpa using hc) _ _ hy) h1, h2⟩
      · cases h
    case h_14 _ k e b =>
      split at h
      · rename_i es clock hes
        have hlt : b < W.heap.size := (Array.getElem?_eq_some_iff.1 hes).1
        rw [hb.block b hlt, hes]
        simp only at h ⊢
        split at h
        · rename_i hcond
          rw [if_pos hcond]
          obtain ⟨entries, h1, h2⟩ := Option.bind_eq_some_iff.1 h
          refine Option.bind_eq_some_iff.2 ⟨entries, mapM_keep (fun y _ z hz => ?_) h1, h2⟩
          obtain ⟨key, h3, h4⟩ := Option.bind_eq_some_iff.1 hz
          refine Option.bind_eq_some_iff.2 ⟨key, h3, ?_⟩
          split at h4
          · rename_i hf
            rw [if_pos hf]
            obtain ⟨q, h5, h6⟩ := Option.map_eq_some_iff.1 h4
            exact Option.map_eq_some_iff.2 ⟨q, ih e (by simpa using hc) _ _ h5, h6⟩
          · cases h4
        · cases h
      · cases h
    all_goals exact h
theorem trodAll_keep {W W' : World} (hb : Below W.heap.size W W') (L : List TypeId) (hL : closedTypes P L = true) :
    ∀ {ts : List TypeId} {vs : List Value} {ds : List (DataW H)} {ps : List MemPlace}, (∀ t ∈ ts, t ∈ L) → DataW.TrodAll enc P W 0 (fun _ => true) true ts vs ds ps →
      DataW.TrodAll enc P W' 0 (fun b => decide (b < W.heap.size)) true ts vs ds ps := by
  intro ts
  induction ts with
  | nil =>
    intro vs ds ps _ h
    obtain ⟨rfl, rfl, rfl⟩ := trodAll_nil h
    exact trodAll_mk0
  | cons t ts ih =>
    intro vs ds ps hts h
    obtain ⟨v, vs', d, ds', p, q, rfl, rfl, rfl, ⟨fuel, h1⟩, h2⟩ := trodAll_cons h
    exact trodAll_cons_mk ⟨fuel, trod_keep hb L hL fuel t (hts t (by simp)) _ _ h1⟩ (ih (fun s hs => hts s (by simp [hs])) h2)
end
end Go.Proofs.YtpmhmippoefcfaaGreatDoor
namespace Go.Proofs.YtpmhmippoefcfaaGreatDoor
open Go.ChangeShapes Go.WideShapes Go.RowKit
open Go.Deep (open_slice choose_lt oneCellFields hone_of)
theorem flatten_at {size : Nat} : ∀ {L : List (List Value)} {j : Nat} {u : Value}, (∀ cs ∈ L, cs.length = size) → L.flatten[j]? = some u → ∃ i r cs, j = i * size + r ∧ L[i]? = some cs ∧ cs[r]? = some u := by
  intro L
  induction L with
  | nil => intro j u _ h; simp at h
  | cons a L ih =>
    intro j u hl h
    rw [List.flatten_cons] at h
    have ha := hl a (by simp)
    rcases Nat.lt_or_ge j a.length with h1 | h1
    · rw [List.getElem?_append_left h1] at h
      exact ⟨0, j, a, by omega, rfl, h⟩
    · rw [List.getElem?_append_right h1] at h
      obtain ⟨i, r, cs, e, h2, h3⟩ := ih (fun cs hc => hl cs (by simp [hc])) h
      exact ⟨i + 1, r, cs, by rw [Nat.add_mul]; omega, by simpa using h2, h3⟩
theorem flatten_len {size : Nat} : ∀ {L : List (List Value)}, (∀ cs ∈ L, cs.length = size) → L.flatten.length = L.length * size := by
  intro L
  induction L with
  | nil => intro _; simp
  | cons a L ih =>
    intro h
    rw [List.flatten_cons, List.length_append, ih (fun cs hc => h cs (by simp [hc])), h a (by simp), List.length_cons, Nat.add_mul]
    omega
theorem of_map {α β : Type} {g : β → α} : ∀ {L : List α}, (∀ x ∈ L, ∃ y, x = g y) → ∃ l : List β, L = l.map g := by
  intro L
  induction L with
  | nil => intro _; exact ⟨[], rfl⟩
  | cons a L ih =>
    intro h
    obtain ⟨y, rfl⟩ := h a (by simp)
    obtain ⟨l, rfl⟩ := ih fun x hx => h x (by simp [hx])
    exact ⟨y :: l, rfl⟩
section
variable {H : Type} {enc : TypeId × Value → H} {P : Program} {W : World}
/-- Bytes in a row of cells. -/
def bytes (l : List UInt8) : List Value := l.map fun c => .int .u8 c.toNat
end
end Go.Proofs.YtpmhmippoefcfaaGreatDoor
namespace Go.Proofs.YtpmhmippoefcfaaGreatDoor
open Go.ChangeShapes Go.WideShapes Go.RowKit
open Go.Deep (open_slice choose_lt oneCellFields hone_of)
section
variable {H : Type} {enc : TypeId × Value → H} {P : Program} {W : World}
/-- A slice, off its one cell. -/
theorem open_rdc {size fuel : Nat} {t e : TypeId} {v : Value} {x : DataW H × List MemPlace} (ht : P.underlying t = some (.slice e)) (hz : P.cellsOf e = size) (hpos : 0 < size)
    (hf : DataW.trod enc P W 0 (fun _ => true) true fuel t [v] = some x) :
    ∃ L : List (List Value), Rd W.heap.size size v L.length L.flatten W ∧ ∀ cs ∈ L, cs.length = size ∧ ∃ n x, DataW.trod enc P W 0 (fun _ => true) true n e cs = some x := by
  rcases open_slice ht hf with ⟨hcs, _⟩ | ⟨a, len, cap, m, n, D, Pl, hcs, _, hl, hm, hmm, _, hi⟩
  · simp at hcs
    subst hcs
    exact ⟨[], Rd.none0 _ _ _, by simp⟩
  · simp at hcs
    subst hcs
    simp only [if_true] at hmm
    rw [hz] at hi
    obtain ⟨f, hfi⟩ := choose_lt hi
    have hcell : ∀ i, i < len → (f i).length = size ∧ ∀ j u, (f i)[j]? = some u → W.cell? ((a.add (i * size)).add j) = some u := by
      intro i hil
      obtain ⟨hc, _⟩ := hfi i (by omega)
      obtain ⟨_, hcl, hat⟩ := World.cells?_some hc
      refine ⟨hcl, fun j u hu => ?_⟩
      have hj : j < size := by have := (List.getElem?_eq_some_iff.1 hu).1; omega
      rw [hat j hj, hu]
    have hall : ∀ cs ∈ (List.range len).map f, cs.length = size := by
      intro cs hc
      obtain ⟨i, hi, rfl⟩ := List.mem_map.1 hc
      exact (hcell i (List.mem_range.1 hi)).1
    refine ⟨(List.range len).map f, ?_, fun cs hc => ?_⟩
    · rw [List.length_map, List.length_range]
      refine ⟨some a, cap, rfl, hl, hm, fun e => (by cases e), by rw [flatten_len hall]; simp, fun hn => ?_⟩
      have h0 := hcell 0 hn
      have h00 := h0.2 0 _ (List.getElem?_eq_getElem (by omega))
      obtain ⟨b, off, spot⟩ := a
      have hspot : spot = none := by simpa [Addr.add] using World.cell?_spot h00
      subst hspot
      refine ⟨b, off, rfl, ?_, fun j u hu => ?_⟩
      · have := cell_lt h00
        rwa [block_add, block_add] at this
      · obtain ⟨i, r, cs, e, h2, h3⟩ := flatten_at hall hu
        have hil : i < len := by
          have := (List.getElem?_eq_some_iff.1 h2).1
          simpa using this
        have : cs = f i := by
          rw [List.getElem?_map, List.getElem?_range hil] at h2
          exact (Option.some.inj h2).symm
        subst this
        have := (hcell i hil).2 r u h3
        rw [add_plain, add_plain, Nat.add_assoc, ← e] at this
        exact this
    · obtain ⟨i, hi, rfl⟩ := List.mem_map.1 hc
      exact ⟨hall _ hc, n, _, (hfi i (by have := List.mem_range.1 hi; omega)).2⟩
end
section
variable {H : Type} {enc : TypeId × Value → H} {W : World}
theorem czInt : Tryz.prog.cellsOf 3 = 1 := by kernel_rfl
theorem czStr : Tryz.prog.cellsOf 9 = 1 := by kernel_rfl
theorem czEnts : Tryz.prog.cellsOf 61 = 1 := by kernel_rfl
theorem czNodes : Tryz.prog.cellsOf 22 = 1 := by kernel_rfl
theorem czEnt : Tryz.prog.cellsOf 131 = 2 := by kernel_rfl
theorem czNode : Tryz.prog.cellsOf 63 = 8 := by kernel_rfl
theorem czDisk : Tryz.prog.cellsOf 24 = 3 := by kernel_rfl
set_option maxRecDepth 100000 in
/-- Entries, off a slice's one cell. -/
theorem open_entc {fuel : Nat} {v : Value} {x : DataW H × List MemPlace} (hf : DataW.trod enc Tryz.prog W 0 (fun _ => true) true fuel 61 [v] = some x) : ∃ l : List EntL, Rd W.heap.size 2 v l.length (ents l) W ∧ Fit l := by
  obtain ⟨L, g1, g2⟩ := open_rdc Tryz.underlying61 czEnt (by decide) hf
  have main : ∀ cs ∈ L, ∃ e : {e : EntL // e.1.length ≤ maxLen}, cs = [Value.string (bs e.1.1), Value.int .i64 e.1.2] := by
    intro cs hc
    obtain ⟨hl, n, x, hx⟩ := g2 cs hc
    obtain ⟨xs, n', _, _, _, hxl, hg⟩ := DataW.trod_struct Tryz.underlying131 hx
    match cs, hl with
    | [c0, c1], _ =>
      have k0 : DataW.trod enc Tryz.prog W 0 (fun _ => true) true n' 9 (([c0, c1].drop 0).take (Tryz.prog.cellsOf 9)) = xs[0]? := by have := hg 0 _ rfl; exact this
      have k1 : DataW.trod enc Tryz.prog W 0 (fun _ => true) true n' 3 (([c0, c1].drop 1).take (Tryz.prog.cellsOf 3)) = xs[1]? := by have := hg 1 _ rfl; exact this
      rw [czStr] at k0
      rw [czInt] at k1
      match xs, hxl with
      | [y0, y1], _ =>
        obtain ⟨s, e0, _, hm⟩ := DataW.trod_string Tryz.underlying9 (show DataW.trod enc Tryz.prog W 0 (fun _ => true) true n' 9 [c0] = some y0 by simpa using k0)
        obtain ⟨z, e1, _, _⟩ := DataW.trod_int Tryz.underlying3 (show DataW.trod enc Tryz.prog W 0 (fun _ => true) true n' 3 [c1] = some y1 by simpa using k1)
        simp at e0 e1
        subst e0 e1
        exact ⟨⟨(s.data.toList, z), by show s.data.toList.length ≤ maxLen; rw [data_len]; exact hm⟩, by rw [← bs_of]⟩
  obtain ⟨l, rfl⟩ := of_map (g := fun e : {e : EntL // e.1.length ≤ maxLen} => [Value.string (bs e.1.1), Value.int .i64 e.1.2]) (L := L) main
  refine ⟨l.map (·.1), ?_, fun e he => ?_⟩
  · rw [List.length_map] at g1
    rw [List.length_map]
    have e : (l.map fun e : {e : EntL // e.1.length ≤ maxLen} => [Value.string (bs e.1.1), Value.int .i64 e.1.2]).flatten = ents (l.map (·.1)) := by
      unfold ents
      rw [List.flatMap_def, List.map_map]
      rfl
    rwa [e] at g1
  · obtain ⟨x, _, rfl⟩ := List.mem_map.1 he
    exact x.2
set_option maxRecDepth 100000 in
/-- A node, off its eight cells. -/
theorem open_node8 {fuel : Nat} {cs : List Value} {x : DataW H × List MemPlace} (hl : cs.length = 8) (hx : DataW.trod enc Tryz.prog W 0 (fun _ => true) true fuel 63 cs = some x) :
    ∃ m : NodeM, cs = ncells m ∧ RdNm W.heap.size m W ∧ Fit m.1.names := by
  obtain ⟨xs, n', _, _, _, hxl, hg⟩ := DataW.trod_struct Tryz.underlying63 hx
  match cs, hl with
  | [c0, c1, c2, c3, c4, c5, c6, c7], _ =>
    have k0 : DataW.trod enc Tryz.prog W 0 (fun _ => true) true n' 3 (([c0, c1, c2, c3, c4, c5, c6, c7].drop 0).take (Tryz.prog.cellsOf 3)) = xs[0]? := by have := hg 0 _ rfl; exact this
    have k1 : DataW.trod enc Tryz.prog W 0 (fun _ => true) true n' 3 (([c0, c1, c2, c3, c4, c5, c6, c7].drop 1).take (Tryz.prog.cellsOf 3)) = xs[1]? := by have := hg 1 _ rfl; exact this
    have k2 : DataW.trod enc Tryz.prog W 0 (fun _ => true) true n' 3 (([c0, c1, c2, c3, c4, c5, c6, c7].drop 2).take (Tryz.prog.cellsOf 3)) = xs[2]? := by have := hg 2 _ rfl; exact this
    have k3 : DataW.trod enc Tryz.prog W 0 (fun _ => true) true n' 3 (([c0, c1, c2, c3, c4, c5, c6, c7].drop 3).take (Tryz.prog.cellsOf 3)) = xs[3]? := by have := hg 3 _ rfl; exact this
    have k4 : DataW.trod enc Tryz.prog W 0 (fun _ => true) true n' 3 (([c0, c1, c2, c3, c4, c5, c6, c7].drop 4).take (Tryz.prog.cellsOf 3)) = xs[4]? := by have := hg 4 _ rfl; exact this
    have k5 : DataW.trod enc Tryz.prog W 0 (fun _ => true) true n' 3 (([c0, c1, c2, c3, c4, c5, c6, c7].drop 5).take (Tryz.prog.cellsOf 3)) = xs[5]? := by have := hg 5 _ rfl; exact this
    have k6 : DataW.trod enc Tryz.prog W 0 (fun _ => true) true n' 9 (([c0, c1, c2, c3, c4, c5, c6, c7].drop 6).take (Tryz.prog.cellsOf 9)) = xs[6]? := by have := hg 6 _ rfl; exact this
    have k7 : DataW.trod enc Tryz.prog W 0 (fun _ => true) true n' 61 (([c0, c1, c2, c3, c4, c5, c6, c7].drop 7).take (Tryz.prog.cellsOf 61)) = xs[7]? := by have := hg 7 _ rfl; exact this
    rw [czInt] at k0 k1 k2 k3 k4 k5
    rw [czStr] at k6
    rw [czEnts] at k7
    match xs, hxl with
    | [y0, y1, y2, y3, y4, y5, y6, y7], _ =>
      obtain ⟨z0, e0, _, _⟩ := DataW.trod_int Tryz.underlying3 (show DataW.trod enc Tryz.prog W 0 (fun _ => true) true n' 3 [c0] = some y0 by simpa using k0)
      obtain ⟨z1, e1, _, _⟩ := DataW.trod_int Tryz.underlying3 (show DataW.trod enc Tryz.prog W 0 (fun _ => true) true n' 3 [c1] = some y1 by simpa using k1)
      obtain ⟨z2, e2, _, _⟩ := DataW.trod_int Tryz.underlying3 (show DataW.trod enc Tryz.prog W 0 (fun _ => true) true n' 3 [c2] = some y2 by simpa using k2)
      obtain ⟨z3, e3, _, _⟩ := DataW.trod_int Tryz.underlying3 (show DataW.trod enc Tryz.prog W 0 (fun _ => true) true n' 3 [c3] = some y3 by simpa using k3)
      obtain ⟨z4, e4, _, _⟩ := DataW.trod_int Tryz.underlying3 (show DataW.trod enc Tryz.prog W 0 (fun _ => true) true n' 3 [c4] = some y4 by simpa using k4)
      obtain ⟨z5, e5, _, _⟩ := DataW.trod_int Tryz.underlying3 (show DataW.trod enc Tryz.prog W 0 (fun _ => true) true n' 3 [c5] = some y5 by simpa using k5)
      obtain ⟨s, e6, _, hm⟩ := DataW.trod_string Tryz.underlying9 (show DataW.trod enc Tryz.prog W 0 (fun _ => true) true n' 9 [c6] = some y6 by simpa using k6)
      obtain ⟨l, h7, hf7⟩ := open_entc (show DataW.trod enc Tryz.prog W 0 (fun _ => true) true n' 61 [c7] = some y7 by simpa using k7)
      simp at e0 e1 e2 e3 e4 e5 e6
      subst e0 e1 e2 e3 e4 e5 e6
      refine ⟨(⟨z0, z1, z2, z3, z4, z5, s.data.toList, l⟩, c7), ?_, h7, hf7⟩
      unfold ncells
      simp only
/-- Nodes, off a slice's one cell. -/
theorem open_nodes {fuel : Nat} {v : Value} {x : DataW H × List MemPlace} (hf : DataW.trod enc Tryz.prog W 0 (fun _ => true) true fuel 22 [v] = some x) : ∃ ms : List NodeM, RdM W.heap.size v ms W ∧ FitD (pl ms) := by
  obtain ⟨L, g1, g2⟩ := open_rdc Tryz.underlying22 czNode (by decide) hf
  have main : ∀ cs ∈ L, ∃ m : {m : NodeM // RdNm W.heap.size m W ∧ Fit m.1.names}, cs = ncells m.1 := by
    intro cs hc
    obtain ⟨hl, n, x, hx⟩ := g2 cs hc
    obtain ⟨m, h1, h2, h3⟩ := open_node8 hl hx
    exact ⟨⟨m, h2, h3⟩, h1⟩
  obtain ⟨l, rfl⟩ := of_map (g := fun m : {m : NodeM // RdNm W.heap.size m W ∧ Fit m.1.names} => ncells m.1) (L := L) main
  refine ⟨l.map (·.1), ⟨?_, fun m hm => ?_⟩, fun n hn => ?_⟩
  · rw [List.length_map] at g1
    rw [List.length_map]
    have e : (l.map fun m : {m : NodeM // RdNm W.heap.size m W ∧ Fit m.1.names} => ncells m.1).flatten = cellsN (l.map (·.1)) := by
      unfold cellsN
      rw [List.flatMap_def, List.map_map]
      rfl
    rwa [e] at g1
  · obtain ⟨x, _, rfl⟩ := List.mem_map.1 hm
    exact x.2.1
  · unfold pl at hn
    rw [List.map_map] at hn
    obtain ⟨x, _, rfl⟩ := List.mem_map.1 hn
    exact x.2.2
theorem agg_cells {cs : Array Value} : (Value.agg cs).cells.toList = cs.toList := rfl
set_option maxRecDepth 100000 in
/-- An argument that is a disk. -/
theorem open_disk {r : Reach} {b0 : Nat} {v : Value} {d : DataW H} {ps : List MemPlace} (hval : Value.okWide Tryz.prog W r b0 24 v) (hd : DataW.Trod enc Tryz.prog W 0 (fun _ => true) true 24 v d ps) :
    ∃ (u : Value) (ms : List NodeM) (most room : Int), v = .agg #[u, .int .i64 most, .int .i64 room] ∧ RdM W.heap.size u ms W ∧ FitD (pl ms) := by
  obtain ⟨cs, rfl, hs⟩ := okWide_struct Tryz.underlying24 hval
  obtain ⟨fuel, hf⟩ := hd
  rw [agg_cells] at hf
  obtain ⟨xs, n', _, _, _, hxl, hg⟩ := DataW.trod_struct Tryz.underlying24 hf
  have hl : cs.toList.length = 3 := by rw [Array.length_toList, hs, czDisk]
  obtain ⟨cl⟩ := cs
  have hl : cl.length = 3 := hl
  match cl, hl with
  | [c0, c1, c2], _ =>
    have k0 : DataW.trod enc Tryz.prog W 0 (fun _ => true) true n' 22 (([c0, c1, c2].drop 0).take (Tryz.prog.cellsOf 22)) = xs[0]? := by have := hg 0 _ rfl; exact this
    have k1 : DataW.trod enc Tryz.prog W 0 (fun _ => true) true n' 3 (([c0, c1, c2].drop 1).take (Tryz.prog.cellsOf 3)) = xs[1]? := by have := hg 1 _ rfl; exact this
    have k2 : DataW.trod enc Tryz.prog W 0 (fun _ => true) true n' 3 (([c0, c1, c2].drop 2).take (Tryz.prog.cellsOf 3)) = xs[2]? := by have := hg 2 _ rfl; exact this
    rw [czInt] at k1 k2
    rw [czNodes] at k0
    match xs, hxl with
    | [y0, y1, y2], _ =>
      obtain ⟨ms, h0, hf0⟩ := open_nodes (show DataW.trod enc Tryz.prog W 0 (fun _ => true) true n' 22 [c0] = some y0 by simpa using k0)
      obtain ⟨z1, e1, _, _⟩ := DataW.trod_int Tryz.underlying3 (show DataW.trod enc Tryz.prog W 0 (fun _ => true) true n' 3 [c1] = some y1 by simpa using k1)
      obtain ⟨z2, e2, _, _⟩ := DataW.trod_int Tryz.underlying3 (show DataW.trod enc Tryz.prog W 0 (fun _ => true) true n' 3 [c2] = some y2 by simpa using k2)
      simp at e1 e2
      subst e1 e2
      exact ⟨c0, ms, z1, z2, rfl, h0, hf0⟩
end
end Go.Proofs.YtpmhmippoefcfaaGreatDoor
namespace Go.Proofs.YtpmhmippoefcfaaGreatDoor
open Go.ChangeShapes Go.WideShapes Go.RowKit
/-- The sentinels of a list: their cells, their blocks; no pointer is met twice. -/
theorem sents_of {P : Program} {nm : String} {W : World} {ti tp te ts : TypeId} {ms : Array (String × TypeId)} {f : Field}
    (hi : P.underlying ti = some (.interface ms)) (hrow : ∀ u, P.typeName? 3 u = some nm → u = tp)
    (hp : P.underlying tp = some (.pointer te)) (he : P.underlying te = some (.struct #[f])) (hft : f.type = ts) (hfo : f.offset = 0) (hs : P.underlying ts = some .string) (hc : P.cellsOf te = 1) (hcs : P.cellsOf ts = 1) :
    ∀ (L : List (String × Nat × List UInt8)) (ps : List MemPlace), (∀ x ∈ L, P.globalNamed x.1 = some x.2.1 ∧ (P.globals[x.2.1]?).map (·.type) = some ti) →
      DataW.LaidVars P W (L.map fun x => (x.1, DataW.iface nm (.ptr (.agg [.lit (.string x.2.2)])))) ps → ps.Nodup →
      (∀ b off, MemPlace.cell b off ∈ ps → (∃ c t, W.heap[b]? = some (.cells c t (0, 0))) ∧ ∀ u v, W.cell? ⟨b, off, none⟩ = some (.iface u v) → Value.okWide P W .any 0 u v) →
      ∃ qs : List Addr, qs.length = L.length ∧ qs.Nodup ∧ (∀ a ∈ qs, MemPlace.cell a.block a.off ∈ ps) ∧
        ∀ (k : Nat) x a, L[k]? = some x → qs[k]? = some a → W.cell? ⟨x.2.1, 0, none⟩ = some (.iface tp (.pointer (some a))) ∧ ∃ c t, W.heap[a.block]? = some (.cells c t (0, 0)) := by
  intro L
  induction L with
  | nil => intro ps _ _ _ _; exact ⟨[], rfl, List.nodup_nil, (fun _ h => by cases h), fun k x a h => by simp at h⟩
  | cons x L ih =>
    intro ps hL h hnd hrows
    obtain ⟨g, t, cs, fuel, p, q, hg, ht, hv, hd, hr, rfl⟩ := h
    obtain ⟨hg0, ht0⟩ := hL x List.mem_cons_self
    obtain rfl := Option.some.inj (hg0.symm.trans hg)
    obtain rfl := Option.some.inj (ht0.symm.trans ht)
    obtain ⟨l0⟩ := cs
    have ok0 : ∀ u v, l0 = [.iface u v] → Value.okWide P W .any 0 u v := fun u v e => by
      subst e
      exact (hrows x.2.1 0 (by simp [MemPlace.row])).2 u v (by simpa using World.var?_cell hg hv 0)
    obtain ⟨a0, s0, rfl, hc0, hs0, hz0, rfl⟩ := errorString_of_trod hi hrow hp he hft hfo hs hc hcs hd ok0
    have hm0 : MemPlace.cell a0.block a0.off ∈ MemPlace.row a0 1 := by simp [MemPlace.row]
    obtain ⟨n1, n2, n3⟩ := List.nodup_append.1 hnd
    obtain ⟨qs, h1, h2, h3, h4⟩ := ih q (fun y hy => hL y (List.mem_cons_of_mem _ hy)) hr n2 (fun b off hb => hrows b off (List.mem_append_right _ hb))
    refine ⟨a0 :: qs, by simp [h1], List.nodup_cons.2 ⟨fun hm => n3 _ (List.mem_append_right _ hm0) _ (h3 a0 hm) rfl, h2⟩, fun a ha => ?_, fun k y a hk ha => ?_⟩
    · rcases List.mem_cons.1 ha with rfl | ha
      · exact List.mem_append_left _ (List.mem_append_right _ hm0)
      · exact List.mem_append_right _ (h3 a ha)
    · cases k with
      | zero =>
        obtain rfl : x = y := by simpa using hk
        obtain rfl : a0 = a := by simpa using ha
        exact ⟨by simpa using World.var?_cell hg hv 0, (hrows a0.block a0.off (List.mem_append_left _ (List.mem_append_right _ hm0))).1⟩
      | succ k => exact h4 k y a (by simpa using hk) (by simpa using ha)
def sentL : List (String × DataW Unit) := [("flagstone/change.errArg", Rows.laid_flagstone_change_errArg), ("flagstone/change.errNone", Rows.laid_flagstone_change_errNone), ("flagstone/change.errExists", Rows.laid_flagstone_change_errExists), ("flagstone/change.errNotDir", Rows.laid_flagstone_change_errNotDir), ("flagstone/change.errIsDir", Rows.laid_flagstone_change_errIsDir), ("flagstone/change.errFull", Rows.laid_flagstone_change_errFull), ("flagstone/change.errAccess", Rows.laid_flagstone_change_errAccess), ("flagstone/change.errLong", Rows.laid_flagstone_change_errLong), ("flagstone/change.errLinks", Rows.laid_flagstone_change_errLinks), ("flagstone/change.errInto", Rows.laid_flagstone_change_errInto)]
def laidL : List (String × DataW Unit) := ("errors.errorType", Rows.laid_errors_errorType) :: sentL
def textOf : DataW Unit → List UInt8
  | .iface _ (.ptr (.agg [.lit (.string s)])) => s
  | _ => []
def sentG : List (String × Nat × List UInt8) := [("flagstone/change.errArg", 3, textOf Rows.laid_flagstone_change_errArg), ("flagstone/change.errNone", 0, textOf Rows.laid_flagstone_change_errNone), ("flagstone/change.errExists", 4, textOf Rows.laid_flagstone_change_errExists), ("flagstone/change.errNotDir", 5, textOf Rows.laid_flagstone_change_errNotDir), ("flagstone/change.errIsDir", 6, textOf Rows.laid_flagstone_change_errIsDir), ("flagstone/change.errFull", 7, textOf Rows.laid_flagstone_change_errFull), ("flagstone/change.errAccess", 2, textOf Rows.laid_flagstone_change_errAccess), ("flagstone/change.errLong", 1, textOf Rows.laid_flagstone_change_errLong), ("flagstone/change.errLinks", 8, textOf Rows.laid_flagstone_change_errLinks), ("flagstone/change.errInto", 9, textOf Rows.laid_flagstone_change_errInto)]
theorem sent_map : sentL = sentG.map fun x => (x.1, DataW.iface "*errors.errorString" (.ptr (.agg [.lit (.string x.2.2)]))) := rfl
theorem starES : "*" ++ "errors.errorString" = "*errors.errorString" := by decide
theorem rowES (u : TypeId) (h : Tryz.prog.typeName? 3 u = some "*errors.errorString") : u = 220 :=
  typeName_ptr_named (nm := "errors.errorString") (by rw [starES]; kernel_rfl) (by kernel_rfl) (by decide) u (by rw [starES]; exact h)
theorem errGlob : Tryz.prog.globalNamed "errors.errorType" = some 10 := by kernel_rfl
theorem errRt : (Tryz.prog.cutTypes.find? (·.1 == "internal/reflectlite.rtype")).map (·.2) = some 190 := by kernel_rfl
theorem errRow : ((List.range Tryz.prog.types.size).filter fun t => Tryz.prog.rowNamed t [101, 114, 114, 111, 114]) = [87] := by kernel_rfl
theorem sentGlob : ∀ x ∈ sentG, Tryz.prog.globalNamed x.1 = some x.2.1 ∧ (Tryz.prog.globals[x.2.1]?).map (·.type) = some 87 := by
  intro x hx
  simp only [sentG, List.mem_cons, List.not_mem_nil, or_false] at hx
  rcases hx with rfl | rfl | rfl | rfl | rfl | rfl | rfl | rfl | rfl | rfl
  all_goals exact ⟨by kernel_rfl, by kernel_rfl⟩
theorem noneL : (laidL.filter fun x => x.2.handleName?.isNone) = sentL := by kernel_rfl
theorem someL : (laidL.filter fun x => x.2.handleName?.isSome) = [("errors.errorType", Rows.laid_errors_errorType)] := by kernel_rfl
/-- The address of an error's sentinel, out of the list. -/
def sAt (qs : List Addr) (k : Nat) : Addr := qs.getD (codes.idxOf k) ⟨0, 0, none⟩
theorem codes_apart : ∀ j ∈ codes, ∀ k ∈ codes, j ≠ k → codes.idxOf j ≠ codes.idxOf k := by decide
theorem codes_lt : ∀ j ∈ codes, codes.idxOf j < 10 := by decide
theorem sent_of {W : World} (h : laidMetH Tryz.prog laidL W) : ∃ S, Sent S W := by
  unfold laidMetH at h
  rw [someL] at h
  have h' : laidMet Tryz.prog (laidL.filter fun x => x.2.handleName?.isNone) W ∧ handlesMet Tryz.prog [("errors.errorType", Rows.laid_errors_errorType)] W := h
  rw [noneL, sent_map] at h'
  obtain ⟨⟨ps, hv, hnd, hrows⟩, hh⟩ := h'
  obtain ⟨qs, hl, hn, _, hat⟩ := sents_of Tryz.underlying87 rowES Tryz.underlying220 Tryz.underlying242 rfl rfl Tryz.underlying9 (by kernel_rfl) (by kernel_rfl) sentG ps sentGlob hv hnd hrows
  have hl : qs.length = 10 := hl
  have hget : ∀ i, i < 10 → qs[i]? = some (qs.getD i ⟨0, 0, none⟩) := fun i hi => by
    rw [List.getD_eq_getElem?_getD, List.getElem?_eq_getElem (by omega)]
    rfl
  have hS : ∀ k ∈ codes, qs[codes.idxOf k]? = some (sAt qs k) := fun k hk => hget _ (codes_lt k hk)
  have herr : W.cell? ⟨10, 0, none⟩ = some errTypeV := by
    obtain ⟨name, u, ty, e1, e2, e3, e4, e5⟩ := hh _ (List.mem_singleton.2 rfl)
    have en : name = [101, 114, 114, 111, 114] := (Option.some.inj e1).symm
    subst en
    obtain rfl := Option.some.inj (errRt.symm.trans e2)
    have hm : ty ∈ (List.range Tryz.prog.types.size).filter fun t => Tryz.prog.rowNamed t [101, 114, 114, 111, 114] := List.mem_filter.2 ⟨List.mem_range.2 e3, e4⟩
    rw [errRow] at hm
    obtain rfl := List.mem_singleton.1 hm
    have hh : typeHandle Tryz.prog 87 = .pointer (some ⟨12, 87, none⟩) := by kernel_rfl
    rw [hh] at e5
    simpa using World.var?_cell errGlob e5 0
  exact ⟨sAt qs,
    (hat 0 _ _ rfl (hget 0 (by decide))).1,
    (hat 1 _ _ rfl (hget 1 (by decide))).1,
    (hat 2 _ _ rfl (hget 2 (by decide))).1,
    (hat 3 _ _ rfl (hget 3 (by decide))).1,
    (hat 4 _ _ rfl (hget 4 (by decide))).1,
    (hat 5 _ _ rfl (hget 5 (by decide))).1,
    (hat 6 _ _ rfl (hget 6 (by decide))).1,
    (hat 7 _ _ rfl (hget 7 (by decide))).1,
    (hat 8 _ _ rfl (hget 8 (by decide))).1,
    (hat 9 _ _ rfl (hget 9 (by decide))).1,
    fun k hk => (hat (codes.idxOf k) (sentG.getD (codes.idxOf k) ("", 0, [])) _ (by
      have := codes_lt k hk
      rw [List.getD_eq_getElem?_getD, List.getElem?_eq_getElem (show codes.idxOf k < sentG.length from this)]
      rfl) (hS k hk)).2,
    fun j hj k hk hne e => by
      have h1 := hS j hj
      have h2 := hS k hk
      rw [← e] at h2
      exact codes_apart j hj k hk hne ((List.getElem?_inj (by rw [hl]; exact codes_lt j hj) hn).1 (h1.trans h2.symm)),
    herr⟩
noncomputable def laidW0 (os : Os) : World :=
  let w0 := World.holding Tryz.prog os ⟨#[], #[], []⟩
  { w0 with heap := w0.heap.modify 10 fun
      | .cells _ t frozen => .cells #[errTypeV] t frozen
      | o => o }
noncomputable def laidWorld (os : Os) : World := (laidW0 os).layVars Tryz.prog sentL
theorem laidWorld_os (os : Os) : (laidWorld os).os = os := by
  unfold laidWorld
  rw [World.layVars_os]
  rfl
theorem laid_sents (os : Os) (args : Array Value) : laidMet Tryz.prog sentL ((laidWorld os).forCall (fun _ _ => 0) ⟨#[], args, []⟩).memory := by
  have e1 : (sentL.filter fun x => (sentL.map (·.1)).contains x.1) = sentL := List.filter_eq_self.2 fun x hx => List.contains_iff_mem.2 (List.mem_map.2 ⟨x, hx, rfl⟩)
  have e2 : (sentL.filter fun x => !(sentL.map (·.1)).contains x.1) = [] := List.filter_eq_nil_iff.2 fun x hx => by rw [List.contains_iff_mem.2 (List.mem_map.2 ⟨x, hx, rfl⟩)]; simp
  have h : laidMet Tryz.prog sentL (laidWorld os) := laidMet_layVars (w0 := laidW0 os) (sentL.map (·.1)) [] (by rw [e1]; rfl) (by rw [e1]; kernel_rfl) (by rw [e1]; kernel_rfl) (by rw [e2]; exact LaidIn.none)
  exact h.of_heap (by simp [World.memory, World.forCall, Input.heap])
section
variable {H : Type} {enc : TypeId × Value → H} {W : World}
theorem czAs : Tryz.prog.cellsOf 26 = 2 := by kernel_rfl
theorem czI : Tryz.prog.cellsOf 3 = 1 := by kernel_rfl
set_option maxRecDepth 100000 in
/-- An argument that says who acts. -/
theorem open_as {r : Reach} {b0 : Nat} {v : Value} {d : DataW H} {ps : List MemPlace} (hval : Value.okWide Tryz.prog W r b0 26 v) (hd : DataW.Trod enc Tryz.prog W 0 (fun _ => true) true 26 v d ps) :
    ∃ who fr : Int, v = asV who fr := by
  obtain ⟨cs, rfl, hs⟩ := okWide_struct Tryz.underlying26 hval
  obtain ⟨fuel, hf⟩ := hd
  rw [agg_cells] at hf
  obtain ⟨xs, n', _, _, _, hxl, hg⟩ := DataW.trod_struct Tryz.underlying26 hf
  have hl : cs.toList.length = 2 := by rw [Array.length_toList, hs, czAs]
  obtain ⟨cl⟩ := cs
  have hl : cl.length = 2 := hl
  match cl, hl with
  | [c0, c1], _ =>
    have k0 : DataW.trod enc Tryz.prog W 0 (fun _ => true) true n' 3 (([c0, c1].drop 0).take (Tryz.prog.cellsOf 3)) = xs[0]? := by have := hg 0 _ rfl; exact this
    have k1 : DataW.trod enc Tryz.prog W 0 (fun _ => true) true n' 3 (([c0, c1].drop 1).take (Tryz.prog.cellsOf 3)) = xs[1]? := by have := hg 1 _ rfl; exact this
    rw [czI] at k0 k1
    match xs, hxl with
    | [y0, y1], _ =>
      obtain ⟨z1, e1, _, _⟩ := DataW.trod_int Tryz.underlying3 (show DataW.trod enc Tryz.prog W 0 (fun _ => true) true n' 3 [c0] = some y0 by simpa using k0)
      obtain ⟨z2, e2, _, _⟩ := DataW.trod_int Tryz.underlying3 (show DataW.trod enc Tryz.prog W 0 (fun _ => true) true n' 3 [c1] = some y1 by simpa using k1)
      simp at e1 e2
      subst e1 e2
      exact ⟨z1, z2, rfl⟩
end
end Go.Proofs.YtpmhmippoefcfaaGreatDoor
namespace Go.Proofs.YtpmhmippoefcfaaGreatDoor
open Go.RowKit Go.Shelf
attribute [local go_sem ↓] Go.wp_at_zero Go.wp_at_succ
theorem sh_n {W : World} : Calls Tryz.prog 40 #[.int .i64 9, .int .i64 9, .int .i64 63] W fun e w' => ∃ ao cap, e = .returned (diskV ao sh0.length cap 9 9) ∧ GivesN sh0 (.slice ao sh0.length cap) w' ∧ Below W.heap.size W w' := by
  refine (new_any 9 9 63 W).mono ?_
  rintro e w' ⟨v, rfl, hg, hb⟩
  rw [sh_new] at hg
  obtain ⟨ao, cap, rfl⟩ := gives_form (gives_no hg)
  exact ⟨ao, cap, by rw [show newI 9 9 63 9 = 9 from by decide +kernel], hg, hb⟩
theorem shc1 {S : Nat → Addr} (ao : Option Addr) (cap : Nat) (W : World) (h : GivesN sh0 (.slice ao sh0.length cap) W) (hs : Sent S W) :
    Calls Tryz.prog 17 #[diskV ao sh0.length cap 9 9, asV 1 0, .string (bs [97]), .int .i64 63] W fun e w' => ChgT sh1 0 9 9 e W w' := by
  have := pmkdir_g (fun _ => False) sh0 9 9 1 0 [97] 63 ao cap W old_no (gives_no h) dsk0 (by decide) hs
  rw [sh_mkdir] at this
  exact this.mono fun _ _ h => chgT h
theorem shc2 {S : Nat → Addr} (ao : Option Addr) (cap : Nat) (W : World) (h : GivesN sh1 (.slice ao sh1.length cap) W) (hs : Sent S W) :
    Calls Tryz.prog 14 #[diskV ao sh1.length cap 9 9, asV 1 0, .string (bs [97, 47, 102]), .int .i64 52] W fun e w' => MakT sh2 2 0 9 9 e W w' := by
  have := pmake_g (fun _ => False) sh1 9 9 1 0 [97, 47, 102] 52 ao cap W old_no (gives_no h) dsk1 (by decide) hs
  rw [sh_make] at this
  exact this.mono fun _ _ h => makT h
theorem shc3 {S : Nat → Addr} (ao : Option Addr) (cap : Nat) (W : World) (h : GivesN sh2 (.slice ao sh2.length cap) W) (hs : Sent S W) :
    Calls Tryz.prog 30 #[diskV ao sh2.length cap 9 9, asV 1 0, asV 1 0, .string (bs [97]), .string (bs [97, 47, 98])] W fun e w' => ChgT sh2 15 9 9 e W w' := by
  have := prename_g (fun _ => False) sh2 9 9 1 0 1 0 [97] [97, 47, 98] ao cap W old_no (gives_no h) dsk2 (by decide) (by decide) hs
  rw [sh_into] at this
  exact this.mono fun _ _ h => chgT h
theorem shc4 {S : Nat → Addr} (ao : Option Addr) (cap : Nat) (W : World) (h : GivesN sh2 (.slice ao sh2.length cap) W) (hs : Sent S W) :
    Calls Tryz.prog 30 #[diskV ao sh2.length cap 9 9, asV 1 0, asV 1 0, .string (bs [97, 47, 102]), .string (bs [103])] W fun e w' => ChgT sh4 0 9 9 e W w' := by
  have := prename_g (fun _ => False) sh2 9 9 1 0 1 0 [97, 47, 102] [103] ao cap W old_no (gives_no h) dsk2 (by decide) (by decide) hs
  rw [sh_rename] at this
  exact this.mono fun _ _ h => chgT h
theorem shc5 {S : Nat → Addr} (ao : Option Addr) (cap : Nat) (W : World) (h : GivesN sh4 (.slice ao sh4.length cap) W) (hs : Sent S W) :
    Calls Tryz.prog 26 #[diskV ao sh4.length cap 9 9, asV 1 0, .string (bs [97, 47])] W fun e w' => ChgT sh5 0 9 9 e W w' := by
  have := prmdir_g (fun _ => False) sh4 9 9 1 0 [97, 47] ao cap W old_no (gives_no h) dsk4 (by decide) hs
  rw [sh_rmdir] at this
  exact this.mono fun _ _ h => chgT h
theorem shc6 {S : Nat → Addr} (ao : Option Addr) (cap : Nat) (W : World) (h : GivesN sh5 (.slice ao sh5.length cap) W) (hs : Sent S W) :
    Calls Tryz.prog 24 #[diskV ao sh5.length cap 9 9, asV 1 0, .string (bs [97])] W fun e w' => ChgT sh5 2 9 9 e W w' := by
  have := punlink_g (fun _ => False) sh5 9 9 1 0 [97] ao cap W old_no (gives_no h) dsk5 (by decide) hs
  rw [sh_unlink] at this
  exact this.mono fun _ _ h => chgT h
theorem shc7 {S : Nat → Addr} (ao : Option Addr) (cap : Nat) (W : World) (h : GivesN sh5 (.slice ao sh5.length cap) W) (hs : Sent S W) :
    Calls Tryz.prog 41 #[diskV ao sh5.length cap 9 9, .int .i64 1, .int .i64 0, .string (bs [103]), .bool false] W fun e w' => e = .returned (.tuple #[.int .i64 2, .int .i64 0]) ∧ Below W.heap.size W w' := by
  have := xnode_g (fun _ => False) sh5 dsk5 9 9 1 0 [103] false (by decide) _ W (gives_no h) hs.err
  unfold WNodeIs at this
  rw [sh_node] at this
  exact this
theorem shc8 (ao : Option Addr) (cap : Nat) (W : World) (h : GivesN sh5 (.slice ao sh5.length cap) W) :
    Calls Tryz.prog 42 #[diskV ao sh5.length cap 9 9] W fun e w' => e = .returned (.int .i64 2) ∧ Below W.heap.size W w' := by
  have := used_g sh5 9 9 (by decide) _ W h
  rw [sh_used] at this
  exact this
set_option maxRecDepth 100000 in
set_option maxHeartbeats 4000000 in
theorem shown_any {S : Nat → Addr} (w : World) (hs : Sent S w) : Calls Tryz.prog 12 #[] w fun e w' => e = .returned (.bool true) ∧ Below w.heap.size w w' := by
  have S0 := Lib.hid (Sn.none (w := w))
  have HS := Lib.hid hs
  clear hs
  go_enter Tryz.func12, Tryz.ntmps12
  go_upto_region 2 with (fail)
  refine code_fresh1 ?_
  intro W1 hb hA0 hs
  have S1 := Lib.hid (S0.out.new1 hb hA0)
  clear hb hA0 hs
  go_wp2_with fail
  refine (sh_n (W := W1)).mono ?_
  rintro e W2 ⟨ao0, cp0, rfl, hg0, hb⟩
  have S2 := Lib.hid ((S1.out.call hb).addG hg0)
  clear hb hg0
  go_upto_region 3 with (fail)
  refine code_fresh1 ?_
  intro W3 hb hA0 hs
  have S3 := Lib.hid (S2.out.new1 hb hA0)
  clear hb hA0 hs
  obtain ⟨a0, a1⟩ := cells2 (S3.out.at 0 rfl)
  obtain ⟨d0, d1, d2⟩ := cells3 (S3.out.at 1 rfl)
  go_wp2_with fail
  refine (shc1 _ _ W3 (S3.out.g 0 rfl) (HS.out.keep S3.out.bel)).mono ?_
  rintro e W4 ⟨ao1, cp1, rfl, hg1, hb⟩
  clear a0 a1 d0 d1 d2
  have S4 := Lib.hid ((S3.out.call hb).addG hg1)
  clear hb hg1
  go_upto_region 4 with (fail)
  refine code_fresh1 ?_
  intro W5 hb hA0 hs
  have S5 := Lib.hid (S4.out.new1 hb hA0)
  clear hb hA0 hs
  obtain ⟨a0, a1⟩ := cells2 (S5.out.at 0 rfl)
  obtain ⟨d10, d11, d12⟩ := cells3 (S5.out.at 2 rfl)
  go_wp2_with fail
  refine (shc2 _ _ W5 (S5.out.g 1 rfl) (HS.out.keep S5.out.bel)).mono ?_
  rintro e W6 ⟨ao2, cp2, rfl, hg2, hb⟩
  clear a0 a1 d10 d11 d12
  have S6 := Lib.hid ((S5.out.call hb).addG hg2)
  clear hb hg2
  go_upto_region 5 with (fail)
  refine code_fresh1 ?_
  intro W7 hb hA0 hs
  have S7 := Lib.hid (S6.out.new1 hb hA0)
  clear hb hA0 hs
  obtain ⟨a0, a1⟩ := cells2 (S7.out.at 0 rfl)
  obtain ⟨d20, d21, d22⟩ := cells3 (S7.out.at 3 rfl)
  go_wp2_with fail
  refine (shc3 _ _ W7 (S7.out.g 2 rfl) (HS.out.keep S7.out.bel)).mono ?_
  rintro e W8 ⟨ao3, cp3, rfl, hg3, hb⟩
  clear a0 a1 d20 d21 d22
  have S8 := Lib.hid ((S7.out.call hb).addG hg3)
  clear hb hg3
  go_upto_region 6 with (fail)
  refine code_fresh1 ?_
  intro W9 hb hA0 hs
  have S9 := Lib.hid (S8.out.new1 hb hA0)
  clear hb hA0 hs
  obtain ⟨a0, a1⟩ := cells2 (S9.out.at 0 rfl)
  obtain ⟨d20, d21, d22⟩ := cells3 (S9.out.at 3 rfl)
  go_wp2_with fail
  refine (shc4 _ _ W9 (S9.out.g 2 rfl) (HS.out.keep S9.out.bel)).mono ?_
  rintro e W10 ⟨ao4, cp4, rfl, hg4, hb⟩
  clear a0 a1 d20 d21 d22
  have S10 := Lib.hid ((S9.out.call hb).addG hg4)
  clear hb hg4
  go_upto_region 7 with (fail)
  refine code_fresh1 ?_
  intro W11 hb hA0 hs
  have S11 := Lib.hid (S10.out.new1 hb hA0)
  clear hb hA0 hs
  obtain ⟨a0, a1⟩ := cells2 (S11.out.at 0 rfl)
  obtain ⟨d40, d41, d42⟩ := cells3 (S11.out.at 5 rfl)
  go_wp2_with fail
  refine (shc5 _ _ W11 (S11.out.g 4 rfl) (HS.out.keep S11.out.bel)).mono ?_
  rintro e W12 ⟨ao5, cp5, rfl, hg5, hb⟩
  clear a0 a1 d40 d41 d42
  have S12 := Lib.hid ((S11.out.call hb).addG hg5)
  clear hb hg5
  go_upto_region 8 with (fail)
  refine code_fresh1 ?_
  intro W13 hb hA0 hs
  have S13 := Lib.hid (S12.out.new1 hb hA0)
  clear hb hA0 hs
  obtain ⟨a0, a1⟩ := cells2 (S13.out.at 0 rfl)
  obtain ⟨d50, d51, d52⟩ := cells3 (S13.out.at 6 rfl)
  go_wp2_with fail
  refine (shc6 _ _ W13 (S13.out.g 5 rfl) (HS.out.keep S13.out.bel)).mono ?_
  rintro e W14 ⟨ao6, cp6, rfl, hg6, hb⟩
  clear a0 a1 d50 d51 d52
  have S14 := Lib.hid ((S13.out.call hb).addG hg6)
  clear hb hg6
  go_upto_region 9 with (fail)
  refine code_fresh1 ?_
  intro W15 hb hA0 hs
  have S15 := Lib.hid (S14.out.new1 hb hA0)
  clear hb hA0 hs
  obtain ⟨a0, a1⟩ := cells2 (S15.out.at 0 rfl)
  obtain ⟨d50, d51, d52⟩ := cells3 (S15.out.at 6 rfl)
  go_wp2_with fail
  refine (shc7 _ _ W15 (S15.out.g 5 rfl) (HS.out.keep S15.out.bel)).mono ?_
  rintro e W16 ⟨rfl, hb⟩
  clear a0 a1 d50 d51 d52
  have S16 := Lib.hid (S15.out.call hb)
  clear hb
  obtain ⟨d50, d51, d52⟩ := cells3 (S16.out.at 6 rfl)
  go_wp2_with fail
  refine (shc8 _ _ W16 (S16.out.g 5 rfl)).mono ?_
  rintro e W17 ⟨rfl, hb⟩
  clear d50 d51 d52
  have S17 := Lib.hid (S16.out.call hb)
  clear hb
  go_wp2_with fail
  go_ret
  exact ⟨rfl, S17.out.bel⟩
end Go.Proofs.YtpmhmippoefcfaaGreatDoor
