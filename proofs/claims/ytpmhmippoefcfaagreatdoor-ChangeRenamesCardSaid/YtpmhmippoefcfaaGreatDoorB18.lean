/-
  The program's find, findThere. The program's findThere, enter.
-/
import Derived.RangeFuncNested
import Derived.RangeFuncBound
import Derived.RangeFuncCalls
import Derived.RangeFuncLeaves
import Derived.RangeFuncBox
import Derived.Shelf.Abstract
import Derived.Shelf.RegionOpen
import Derived.WalkKit
import Derived.OwnWalkIn
import Derived.TacticsInMore
import Derived.LoopNIn
import Derived.LoopIn
import Derived.Lib.Hide
import Derived.Outline
import Derived.Deep.QuietTactic
import Derived.Deep.AppendLies
import Derived.BigQuiet
import Derived.Lib.Strings
import Derived.WalkSmall
import Derived.Shelf.Small.Strs
import Derived.Shelf.Strings.Search1
import Derived.Shelf.Strings.Prefix
import Derived.Laws.AppendOwn
import Derived.Laws.OwnMore
import Derived.Laws.AppendOwnNone
import Derived.WideShapes
import Derived.Lib.TrimByte
import Derived.Lib.Bytealg
import Derived.Lib.QuietBelow
import Derived.Deep.DrawnRows
import Derived.Laws.Cover1
import Derived.WalkMore
import Derived.Shelf.Spec.SlicesGrow
import Derived.StillTailTactics
import Derived.Laws.BitsLemmas
import Derived.Laws.RangeAny
import Derived.Laws.Runes
import Derived.Lib.Builder
import Derived.Deep.WholeRow
import Derived.Lib.OthersKept
import Derived.Shelf.SlSorted.Search
import Derived.LaidEql
import Derived.Stop.Asserts
import Derived.RowKitTokens
import Derived.Deep.RegionHeld3
import Derived.Deep.RegionLaw
import Derived.Handy
import Derived.Laws.IdiomCopy
import Derived.Lib.SliceRun
import Derived.Laws.ResultCell
import Derived.Deep.LoopGhost
import Derived.Deep.DeepCutAuto
import Derived.Deep.MidRow
import Derived.BigRegion
import Derived.Test.YtpmhmippoefcfaaGreatDoorProg
import Derived.Test.YtpmhmippoefcfaaGreatDoorShelf
import Derived.Test.YtpmhmippoefcfaaGreatDoorB01
import Derived.Test.YtpmhmippoefcfaaGreatDoorB02
import Derived.Test.YtpmhmippoefcfaaGreatDoorB04
import Derived.Test.YtpmhmippoefcfaaGreatDoorB05
import Derived.Test.YtpmhmippoefcfaaGreatDoorB07
import Derived.Test.YtpmhmippoefcfaaGreatDoorB08
import Derived.Test.YtpmhmippoefcfaaGreatDoorB09
import Derived.Test.YtpmhmippoefcfaaGreatDoorB10
import Derived.Test.YtpmhmippoefcfaaGreatDoorB12
import Derived.Test.YtpmhmippoefcfaaGreatDoorB13
import Derived.Test.YtpmhmippoefcfaaGreatDoorB14
import Derived.Test.YtpmhmippoefcfaaGreatDoorB16
import Derived.Test.YtpmhmippoefcfaaGreatDoorB17
namespace Go.Proofs.YtpmhmippoefcfaaGreatDoor
open Go.RowKit Go.Shelf
attribute [local go_sem ↓] Go.wp_at_zero Go.wp_at_succ
/-- Where a path leads. -/
def placeOf (l : List NodeL) (who : Int) (path : Str) (R : ResL) : PlaceL := if R.2 ≠ 0 then ⟨0, [], zeroS, zeroN, zeroN⟩ else ⟨who, path, R.1, nodeL l R.1.dir, nodeL l R.1.ino⟩
/-- A place, and an error. -/
def PlcIs (X : Nat → Prop) (S : Nat → Addr) (p : PlaceL) (n : Int) (e : Ending) (w w' : World) : Prop :=
  ∃ v aod capd aon capn, e = .returned (.tuple #[.agg (pcells p (.slice aod p.dn.names.length capd) (.slice aon p.nn.names.length capn)), v]) ∧ ErrIs S n v ∧ NodeX X p.dn (.slice aod p.dn.names.length capd) w' ∧ NodeX X p.nn (.slice aon p.nn.names.length capn) w' ∧ Below w.heap.size w w'
theorem PlcIs.of {X : Nat → Prop} {S : Nat → Addr} {p q : PlaceL} {n m : Int} {v : Value} {aod aon : Option Addr} {capd capn : Nat} {w w' : World} (hp : q = p) (hn : m = n) (hv : ErrIs S n v) (h1 : NodeX X p.dn (.slice aod p.dn.names.length capd) w') (h2 : NodeX X p.nn (.slice aon p.nn.names.length capn) w') (hb : Below w.heap.size w w') :
    PlcIs X S q m (.returned (.tuple #[.agg (pcells p (.slice aod p.dn.names.length capd) (.slice aon p.nn.names.length capn)), v])) w w' := by
  subst hp; subst hn
  exact ⟨v, aod, capd, aon, capn, rfl, hv, h1, h2, hb⟩
/-- Cells, one behind the other, written into an array. -/
def setArr : Array Value → Nat → List Value → Array Value
  | cs, _, [] => cs
  | cs, o, v :: r => setArr (cs.setIfInBounds o v) (o + 1) r
theorem heap_set_cells {b : Nat} {t : TypeId} : ∀ (vs : List Value) (o : Nat) (w : World) (cs : Array Value), w.heap[b]? = some (.cells cs t (0, 0)) → (w.setCells b o vs).heap[b]? = some (.cells (setArr cs o vs) t (0, 0))
  | [], _, _, _, h => h
  | v :: r, o, w, _, h => heap_set_cells r (o + 1) (w.setCell ⟨b, o, none⟩ v) _ (heap_set h)
theorem wpList_store_part {P : Program} {ops : Array Oper} {rest : List Oper} {op : Oper} {a : Act} {w : World} {Q : Exit → Act → World → Prop} (hgd : op.guard = none) (ty : TypeId) (x y : Operand) (ho : op.op = .store ty x y)
    (b o : Nat) {cells old : List Value} {t : TypeId} (hx : a.eval x = .pointer (some ⟨b, o, none⟩)) (hy : a.eval y = .agg cells.toArray) (hb : w.heap[b]? = some (.cells old.toArray t (0, 0))) (hs : o + cells.length ≤ old.length)
    (hi : (P.info? ty).map (·.size) = some cells.length) (h1 : cells.all (·.oneCell') = true)
    (h : ∀ W', Below b w W' → (∀ g, g ≠ b → W'.heap[g]? = w.heap[g]?) → W'.heap.size = w.heap.size → W'.heap[b]? = some (.cells (setArr old.toArray o cells) t (0, 0)) → wpList P ops Q rest (a.put op.dst undef) W') : wpList P ops Q (op :: rest) a w := by
  refine wpList_store_mid hgd ty x y ho b o cells.toArray hx hy ?_ (by simpa using hi) ?_ ?_
  · intro j hj
    have := there_block hb (o + j) (by rw [List.size_toArray] at hj ⊢; omega)
    rwa [Nat.zero_add] at this
  · exact all_oneCell_toArray fun v hv => List.all_eq_true.1 h1 v hv
  · exact h _ (below_setCells _ _ (Nat.le_refl _) _ _ _) (fun g hg => heap_setCells _ _ hg _ _ _) (size_setCells _ _ _ _) (heap_set_cells _ _ _ _ hb)
theorem wpList_store_dn {P : Program} {ops : Array Oper} {rest : List Oper} {op : Oper} {a : Act} {w : World} {Q : Exit → Act → World → Prop} (hgd : op.guard = none) (ty : TypeId) (x y : Operand) (ho : op.op = .store ty x y)
    (b : Nat) {u0 u1 u2 u3 u4 u5 u6 u7 u8 u9 u10 u11 u12 u13 u14 u15 u16 u17 u18 u19 u20 u21 v0 v1 v2 v3 v4 v5 v6 v7 : Value} {t : TypeId} (hx : a.eval x = .pointer (some ⟨b, 6, none⟩)) (hy : a.eval y = .agg #[v0, v1, v2, v3, v4, v5, v6, v7]) (hb : w.heap[b]? = some (.cells #[u0, u1, u2, u3, u4, u5, u6, u7, u8, u9, u10, u11, u12, u13, u14, u15, u16, u17, u18, u19, u20, u21] t (0, 0)))
    (hi : (P.info? ty).map (·.size) = some 8) (h1 : [v0, v1, v2, v3, v4, v5, v6, v7].all (·.oneCell') = true)
    (h : ∀ W', Below b w W' → (∀ g, g ≠ b → W'.heap[g]? = w.heap[g]?) → W'.heap.size = w.heap.size → W'.heap[b]? = some (.cells #[u0, u1, u2, u3, u4, u5, v0, v1, v2, v3, v4, v5, v6, v7, u14, u15, u16, u17, u18, u19, u20, u21] t (0, 0)) → wpList P ops Q rest (a.put op.dst undef) W') : wpList P ops Q (op :: rest) a w := by
  refine wpList_store_part hgd ty x y ho b 6 (cells := [v0, v1, v2, v3, v4, v5, v6, v7]) (old := [u0, u1, u2, u3, u4, u5, u6, u7, u8, u9, u10, u11, u12, u13, u14, u15, u16, u17, u18, u19, u20, u21]) hx hy hb (Nat.le_of_ble_eq_true rfl) hi h1 fun W' h2 h3 h4 h5 => h W' h2 h3 h4 (h5.trans ?_)
  simp [setArr]
theorem wpList_store_nn {P : Program} {ops : Array Oper} {rest : List Oper} {op : Oper} {a : Act} {w : World} {Q : Exit → Act → World → Prop} (hgd : op.guard = none) (ty : TypeId) (x y : Operand) (ho : op.op = .store ty x y)
    (b : Nat) {u0 u1 u2 u3 u4 u5 u6 u7 u8 u9 u10 u11 u12 u13 u14 u15 u16 u17 u18 u19 u20 u21 v0 v1 v2 v3 v4 v5 v6 v7 : Value} {t : TypeId} (hx : a.eval x = .pointer (some ⟨b, 14, none⟩)) (hy : a.eval y = .agg #[v0, v1, v2, v3, v4, v5, v6, v7]) (hb : w.heap[b]? = some (.cells #[u0, u1, u2, u3, u4, u5, u6, u7, u8, u9, u10, u11, u12, u13, u14, u15, u16, u17, u18, u19, u20, u21] t (0, 0)))
    (hi : (P.info? ty).map (·.size) = some 8) (h1 : [v0, v1, v2, v3, v4, v5, v6, v7].all (·.oneCell') = true)
    (h : ∀ W', Below b w W' → (∀ g, g ≠ b → W'.heap[g]? = w.heap[g]?) → W'.heap.size = w.heap.size → W'.heap[b]? = some (.cells #[u0, u1, u2, u3, u4, u5, u6, u7, u8, u9, u10, u11, u12, u13, v0, v1, v2, v3, v4, v5, v6, v7] t (0, 0)) → wpList P ops Q rest (a.put op.dst undef) W') : wpList P ops Q (op :: rest) a w := by
  refine wpList_store_part hgd ty x y ho b 14 (cells := [v0, v1, v2, v3, v4, v5, v6, v7]) (old := [u0, u1, u2, u3, u4, u5, u6, u7, u8, u9, u10, u11, u12, u13, u14, u15, u16, u17, u18, u19, u20, u21]) hx hy hb (Nat.le_of_ble_eq_true rfl) hi h1 fun W' h2 h3 h4 h5 => h W' h2 h3 h4 (h5.trans ?_)
  simp [setArr]
set_option maxRecDepth 100000 in
set_option maxHeartbeats 4000000 in
theorem find_g (X : Nat → Prop) {S : Nat → Addr} (l : List NodeL) (most room who fr : Int) (path : Str) (ao : Option Addr) (cap : Nat) (w : World) (hX : Old X w) (hg : GivesX X l (.slice ao l.length cap) w) (hd : Dsk l) (hplpath : path.length ≤ 10000) (hs : Sent S w) :
    Calls Tryz.prog 82 #[diskV ao l.length cap most room, asV who fr, .string (bs path)] w fun e w' => PlcIs X S (placeOf l who path (walkL l who fr path false)) (walkL l who fr path false).2 e w w' := by
  have S0 := Lib.hid (St.start (G := [(l, .slice ao l.length cap)]) (N := []) hX (one_g hg) no_n)
  have HD := Lib.hid hd
  have HS := Lib.hid hs
  have HRET : Hid (∀ (W : World) (cs : Array Value) (fr), W.heap[w.heap.size + 2]? = some (.cells cs 93 fr) → cs.size = 22 → ∀ tmps : Array Value, tmps.getD 6 undef = .pointer (some ⟨w.heap.size + 2, 0, none⟩) → (results Tryz.f82 tmps).run Tryz.prog W = .ok (.tuple #[.agg cs, tmps.getD 7 undef]) W) := Lib.hid fun W cs fr h hs tmps ht =>
  results_ct (p := 6) (u := 7) (ty := 93) rfl tmps W (w.heap.size + 2) _ cs fr _ ht h Tryz.underlying93 rfl (by rw [hs]; kernel_rfl)
  clear hX hg hd hs
  go_enter Tryz.func82, Tryz.ntmps82
  go_upto_region 1 with (fail)
  refine code_fresh3 ?_
  intro W1 hb hA0 hA1 hA2 hs
  have S1 := Lib.hid (S0.out.new3 hb hA0 hA1 hA2)
  clear hb hA0 hA1 hA2 hs
  have h_d := (S1.out.at 0 rfl)
  obtain ⟨a0, a1⟩ := cells2 (S1.out.at 1 rfl)
  go_wp2_with (first | (refine wpList_load_row rfl 24 _ rfl _ rfl 24 _ (0, 0) _ h_d Tryz.underlying24 rfl (by kernel_rfl) ?_))
  refine (xwalk_g _ l HD.out most room who fr path false hplpath _ W1 (S1.out.g 0 rfl) (HS.out.keep S1.out.bel).err).mono ?_
  rintro e W2 ⟨rfl, hb⟩
  clear h_d a0 a1
  have S2 := Lib.hid (S1.out.call hb)
  clear hb
  obtain ⟨R, hR⟩ : ∃ R, R = walkL l who fr path false := ⟨_, rfl⟩
  rw [← hR]
  have HR := Lib.hid hR
  clear hR
  obtain ⟨⟨sd, sn, si, ss⟩, n⟩ := R
  go_upto_region 2 with (fail)
  refine code_fresh1 ?_
  intro W3 hb hA0 hs
  have S3 := Lib.hid (S2.out.new1 hb hA0)
  clear hb hA0 hs
  by_cases h0 : n = 0
  · subst h0
    have HP : Hid (placeOf l who path (walkL l who fr path false) = ⟨who, path, ⟨sd, sn, si, ss⟩, nodeL l sd, nodeL l si⟩ ∧ (walkL l who fr path false).2 = 0) := Lib.hid (by rw [← HR.out]; exact ⟨rfl, rfl⟩)
    clear HR
    obtain ⟨a0, -⟩ := cells2 (S3.out.at 1 rfl)
    have h_s := (S3.out.at 3 rfl)
    go_upto_region 5 with (first | (refine wpList_load_row rfl 91 _ rfl _ rfl 91 _ (0, 0) _ h_s Tryz.underlying91 rfl (by kernel_rfl) ?_) | (refine wpList_fresh1 ?_; intro W4 hb hn hs; have S4 := Lib.hid (S3.out.new1 hb hn); have h_p := S4.out.at 4 rfl; clear hb hn hs) | (refine wpList_store_row rfl 93 _ _ rfl _ rfl rfl h_p rfl (by kernel_rfl) rfl ?_; intro W5 hb hg hs hn; have S5 := Lib.hid (S4.out.set 4 rfl hb hg hs hn); clear hb hg hs hn))
    clear h_s h_p a0
    have h_d := (S5.out.at 0 rfl)
    obtain ⟨s0, -, -, -⟩ := cells4 (S5.out.at 3 rfl)
    go_wp2_with (first | (refine wpList_load_row rfl 24 _ rfl _ rfl 24 _ (0, 0) _ h_d Tryz.underlying24 rfl (by kernel_rfl) ?_))
    refine (get_g _ l most room sd _ W5 S5.out.oldX (S5.out.g 0 rfl) HD.out.len HD.out.ord.nm).mono ?_
    rintro e W6 ⟨ao1, cp1, rfl, hn1, hb⟩
    clear h_d s0
    have S6 := Lib.hid ((S5.out.call hb).addN hn1)
    clear hb hn1
    have h_p := (S6.out.at 4 rfl)
    go_upto_region 6 with (first | (refine wpList_store_dn rfl 63 _ _ rfl _ rfl rfl h_p (by kernel_rfl) rfl ?_; intro W7 hb hg hs hn; have S7 := Lib.hid (S6.out.set 4 rfl hb hg hs hn); clear hb hg hs hn))
    clear h_p
    have h_d := (S7.out.at 0 rfl)
    obtain ⟨-, -, s2, -⟩ := cells4 (S7.out.at 3 rfl)
    go_wp2_with (first | (refine wpList_load_row rfl 24 _ rfl _ rfl 24 _ (0, 0) _ h_d Tryz.underlying24 rfl (by kernel_rfl) ?_))
    refine (get_g _ l most room si _ W7 S7.out.oldX (S7.out.g 0 rfl) HD.out.len HD.out.ord.nm).mono ?_
    rintro e W8 ⟨ao2, cp2, rfl, hn2, hb⟩
    clear h_d s2
    have S8 := Lib.hid ((S7.out.call hb).addN hn2)
    clear hb hn2
    have h_p := (S8.out.at 4 rfl)
    go_upto_region 7 with (first | (refine wpList_store_nn rfl 63 _ _ rfl _ rfl rfl h_p (by kernel_rfl) rfl ?_; intro W9 hb hg hs hn; have S9 := Lib.hid (S8.out.set 4 rfl hb hg hs hn); clear hb hg hs hn))
    clear h_p
    have h_r := (S9.out.at 2 rfl)
    have h_p := (S9.out.at 4 rfl)
    go_wp2_with (first | (refine wpList_load_row rfl 93 _ rfl _ rfl 93 _ (0, 0) _ h_p Tryz.underlying93 rfl (by kernel_rfl) ?_) | (refine wpList_store_row rfl 93 _ _ rfl _ rfl rfl h_r rfl (by kernel_rfl) rfl ?_; intro W10 hb hg hs hn; have S10 := Lib.hid (S9.out.set 2 rfl hb hg hs hn); clear hb hg hs hn))
    refine bodyPost_ret (HRET.out _ _ _ (S10.out.at 2 rfl) rfl _ rfl) rfl ?_
    obtain ⟨e1, e2⟩ := HP.out
    rw [e1, e2]
    exact ⟨_, ao1, cp1, ao2, cp2, rfl, ErrIs.nil, S10.out.nX 0 rfl, S10.out.nX 1 rfl, S10.out.bel⟩
  · have hI : (n != 0) = true := by simpa using h0
    have HP : Hid (placeOf l who path (walkL l who fr path false) = ⟨0, [], zeroS, zeroN, zeroN⟩ ∧ (walkL l who fr path false).2 = n ∧ n ≠ 0) := Lib.hid (by rw [← HR.out]; exact ⟨if_pos h0, rfl, h0⟩)
    clear h0 HR
    have h_r := (S3.out.at 2 rfl)
    go_wp2_with (first | (refine wpList_store_row rfl 93 _ _ rfl _ rfl rfl h_r rfl (by kernel_rfl) rfl ?_; intro W4 hb hg hs hn; have S4 := Lib.hid (S3.out.set 2 rfl hb hg hs hn); clear hb hg hs hn))
    refine bodyPost_ret (HRET.out _ _ _ (S4.out.at 2 rfl) rfl _ rfl) rfl ?_
    obtain ⟨e1, e2, e3⟩ := HP.out
    rw [e1, e2]
    exact ⟨_, none, 0, none, 0, rfl, ErrIs.below e3 _, NodeX.zero _ _, NodeX.zero _ _, S4.out.bel⟩
end Go.Proofs.YtpmhmippoefcfaaGreatDoor
namespace Go.Proofs.YtpmhmippoefcfaaGreatDoor
open Go.RowKit Go.Shelf
attribute [local go_sem ↓] Go.wp_at_zero Go.wp_at_succ
theorem wpList_load_rowG {P : Program} {ops : Array Oper} {rest : List Oper} {o : Oper} {a : Act} {w : World} {Q : Exit → Act → World → Prop} (hw : Region.wanted o (yielded ops a.tmps) = true) (ty : TypeId) (x : Operand) (ho : o.op = .load ty x)
    (g : Nat) (hx : a.eval x = .pointer (some ⟨g, 0, none⟩)) (t : TypeId) (cs : Array Value) (fr : Nat × Nat) (d : TypeDesc) (hg : w.heap[g]? = some (.cells cs t fr))
    (hu : P.underlying ty = some d) (hd : (match d with | .struct _ | .array _ _ => true | _ => false) = true) (hi : (P.info? ty).map (·.size) = some cs.size)
    (h : wpList P ops Q rest (a.put o.dst (.agg cs)) w) : wpList P ops Q (o :: rest) a w :=
  wpList_step fun _ hK => by rw [if_pos hw]; exact wp_load_row ty x ho g hx t cs fr d hg hu hd hi (hK _ _ h)
theorem ino_there {l : List NodeL} (hd : Dsk l) {who fr : Int} {path : Str} {f : Bool} (h : (walkL l who fr path f).2 = 0) : ((walkL l who fr path f).1.ino != -1) = !decide ((walkL l who fr path f).1.ino < 0) := by
  rcases walk_ino hd.rig who fr path f h with h1 | h1
  · rw [h1]; rfl
  · have := got_le h1
    rw [decide_eq_false (by omega)]
    simpa using show (walkL l who fr path f).1.ino ≠ -1 by omega
theorem place_ino {l : List NodeL} {who : Int} {path : Str} {R : ResL} (h : R.2 = 0) : (placeOf l who path R).s = R.1 ∧ (placeOf l who path R).who = who ∧ (placeOf l who path R).dn = nodeL l R.1.dir ∧ (placeOf l who path R).nn = nodeL l R.1.ino := by
  unfold placeOf
  rw [if_neg (by simp [h])]
  exact ⟨rfl, rfl, rfl, rfl⟩
set_option maxRecDepth 100000 in
set_option maxHeartbeats 4000000 in
theorem findthere_g (X : Nat → Prop) {S : Nat → Addr} (l : List NodeL) (most room who fr : Int) (path : Str) (ao : Option Addr) (cap : Nat) (w : World) (hX : Old X w) (hg : GivesX X l (.slice ao l.length cap) w) (hd : Dsk l) (hplpath : path.length ≤ 10000) (hs : Sent S w) :
    Calls Tryz.prog 55 #[diskV ao l.length cap most room, asV who fr, .string (bs path)] w fun e w' => PlcIs X S (placeOf l who path (walkL l who fr path false)) (thereE (walkL l who fr path false)) e w w' := by
  have S0 := Lib.hid (St.start (G := [(l, .slice ao l.length cap)]) (N := []) hX (one_g hg) no_n)
  have HD := Lib.hid hd
  have HS := Lib.hid hs
  have HRET : Hid (∀ (W : World) (cs : Array Value) (fr), W.heap[w.heap.size + 2]? = some (.cells cs 93 fr) → cs.size = 22 → ∀ tmps : Array Value, tmps.getD 6 undef = .pointer (some ⟨w.heap.size + 2, 0, none⟩) → (results Tryz.f55 tmps).run Tryz.prog W = .ok (.tuple #[.agg cs, tmps.getD 7 undef]) W) := Lib.hid fun W cs fr h hs tmps ht =>
  results_ct (p := 6) (u := 7) (ty := 93) rfl tmps W (w.heap.size + 2) _ cs fr _ ht h Tryz.underlying93 rfl (by rw [hs]; kernel_rfl)
  clear hX hg hd hs
  go_enter Tryz.func55, Tryz.ntmps55
  go_upto_region 1 with (fail)
  refine code_fresh3 ?_
  intro W1 hb hA0 hA1 hA2 hs
  have S1 := Lib.hid (S0.out.new3 hb hA0 hA1 hA2)
  clear hb hA0 hA1 hA2 hs
  have h_d := (S1.out.at 0 rfl)
  have h_a := (S1.out.at 1 rfl)
  go_wp2_with (first | (refine wpList_load_row rfl 24 _ rfl _ rfl 24 _ (0, 0) _ h_d Tryz.underlying24 rfl (by kernel_rfl) ?_) | (refine wpList_load_row rfl 26 _ rfl _ rfl 26 _ (0, 0) _ h_a Tryz.underlying26 rfl (by kernel_rfl) ?_))
  refine (find_g _ l most room who fr path _ _ W1 S1.out.oldX (S1.out.g 0 rfl) HD.out hplpath (HS.out.keep S1.out.bel)).mono ?_
  rintro e W2 ⟨v, aod, capd, aon, capn, rfl, hv, hn1, hn2, hb⟩
  clear h_d h_a
  obtain ⟨p, hp⟩ : ∃ p, p = placeOf l who path (walkL l who fr path false) := ⟨_, rfl⟩
  obtain ⟨n, hn⟩ : ∃ n, n = (walkL l who fr path false).2 := ⟨_, rfl⟩
  rw [← hp] at hn1 hn2 ⊢
  rw [← hn] at hv
  have S2 := Lib.hid (((S1.out.call hb).addN hn1).addN hn2)
  clear hb hn1 hn2
  have HV := Lib.hid hv
  have HPp := Lib.hid hp
  have HNn := Lib.hid hn
  clear hp hn
  go_upto_region 2 with (first | (refine wpList_fresh1 ?_; intro W3 hb hn hs; have S3 := Lib.hid (S2.out.new1 hb hn); have h_p := S3.out.at 3 rfl; clear hb hn hs) | (refine wpList_store_row rfl 93 _ _ rfl _ rfl rfl h_p rfl (by kernel_rfl) rfl ?_; intro W4 hb hg hs hn; have S4 := Lib.hid (S3.out.set 3 rfl hb hg hs hn); clear hb hg hs hn))
  clear h_p
  rcases hv.form with ⟨h0, rfl⟩ | ⟨h0, q, c, rfl⟩
  · have hr0 : (walkL l who fr path false).2 = 0 := by rw [← HNn.out]; exact h0
    have HT : Hid (thereE (walkL l who fr path false) = if (p.s.ino != -1) = true then 0 else 2) := Lib.hid (by rw [HPp.out, (place_ino hr0).1, ino_there HD.out hr0]; unfold thereE; rw [if_neg (by simp [hr0])]; cases h9 : decide ((walkL l who fr path false).1.ino < 0) with | true => rw [if_pos (of_decide_eq_true h9)]; rfl | false => rw [if_neg (of_decide_eq_false h9)]; rfl)
    clear hv h0 hr0
    have h_p := (S4.out.at 3 rfl)
    go_wp2_with (first | (refine wpList_load_rowG rfl 93 _ rfl _ rfl 93 _ (0, 0) _ h_p Tryz.underlying93 rfl (by kernel_rfl) ?_))
    refine (there_any p _ _ W4).mono ?_
    rintro e W5 ⟨rfl, hb⟩
    clear h_p
    have S5 := Lib.hid (S4.out.call hb)
    clear hb
    cases hi : (p.s.ino != -1) with
    | true =>
      have HT2 : Hid (thereE (walkL l who fr path false) = 0) := Lib.hid (by rw [HT.out, hi]; rfl)
      have h_r := (S5.out.at 2 rfl)
      have h_p := (S5.out.at 3 rfl)
      go_wp2_with (first | (refine wpList_load_row rfl 93 _ rfl _ rfl 93 _ (0, 0) _ h_p Tryz.underlying93 rfl (by kernel_rfl) ?_) | (refine wpList_store_row rfl 93 _ _ rfl _ rfl rfl h_r rfl (by kernel_rfl) rfl ?_; intro W6 hb hg hs hn; have S6 := Lib.hid (S5.out.set 2 rfl hb hg hs hn); clear hb hg hs hn))
      refine bodyPost_ret (HRET.out _ _ _ (S6.out.at 2 rfl) rfl _ rfl) rfl ?_
      exact PlcIs.of HPp.out.symm HT2.out ErrIs.nil (S6.out.nX 0 rfl) (S6.out.nX 1 rfl) S6.out.bel
    | false =>
      have HT2 : Hid (thereE (walkL l who fr path false) = 2) := Lib.hid (by rw [HT.out, hi]; rfl)
      have h_p := (S5.out.at 3 rfl)
      have g2 := (HS.out.keep S5.out.bel).e2
      go_wp2_with (first | (refine wpList_load_row rfl 93 _ rfl _ rfl 93 _ (0, 0) _ h_p Tryz.underlying93 rfl (by kernel_rfl) ?_))
      refine (fault_any p _ _ _ _ W5).mono ?_
      rintro e W6 ⟨rfl, hb⟩
      clear h_p g2
      have S6 := Lib.hid (S5.out.call hb)
      clear hb
      have h_r := (S6.out.at 2 rfl)
      have h_p := (S6.out.at 3 rfl)
      go_wp2_with (first | (refine wpList_load_row rfl 93 _ rfl _ rfl 93 _ (0, 0) _ h_p Tryz.underlying93 rfl (by kernel_rfl) ?_) | (refine wpList_store_row rfl 93 _ _ rfl _ rfl rfl h_r rfl (by kernel_rfl) rfl ?_; intro W7 hb hg hs hn; have S7 := Lib.hid (S6.out.set 2 rfl hb hg hs hn); clear hb hg hs hn))
      refine bodyPost_ret (HRET.out _ _ _ (S7.out.at 2 rfl) rfl _ rfl) rfl ?_
      exact PlcIs.of HPp.out.symm HT2.out (ErrIs.sent 2 (by decide) _) (S7.out.nX 0 rfl) (S7.out.nX 1 rfl) S7.out.bel
  · have HT : Hid (thereE (walkL l who fr path false) = n) := Lib.hid (by unfold thereE; rw [← HNn.out, if_pos h0])
    clear hv h0
    have h_r := (S4.out.at 2 rfl)
    have h_p := (S4.out.at 3 rfl)
    go_wp2_with (first | (refine wpList_load_row rfl 93 _ rfl _ rfl 93 _ (0, 0) _ h_p Tryz.underlying93 rfl (by kernel_rfl) ?_) | (refine wpList_store_row rfl 93 _ _ rfl _ rfl rfl h_r rfl (by kernel_rfl) rfl ?_; intro W5 hb hg hs hn; have S5 := Lib.hid (S4.out.set 2 rfl hb hg hs hn); clear hb hg hs hn))
    refine bodyPost_ret (HRET.out _ _ _ (S5.out.at 2 rfl) rfl _ rfl) rfl ?_
    exact PlcIs.of HPp.out.symm HT.out HV.out (S5.out.nX 0 rfl) (S5.out.nX 1 rfl) S5.out.bel
end Go.Proofs.YtpmhmippoefcfaaGreatDoor
