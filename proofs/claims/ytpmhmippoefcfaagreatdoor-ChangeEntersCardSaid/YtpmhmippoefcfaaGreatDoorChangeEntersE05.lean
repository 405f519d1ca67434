/-
  The document's Add.
-/
import Derived.RangeFuncNested
import Derived.RangeFuncBound
import Derived.RangeFuncCalls
import Derived.RangeFuncLeaves
import Derived.RangeFuncBox
import Derived.Shelf.Abstract
import Derived.Shelf.RegionOpen
import Derived.WalkKit
import Derived.OwnWalkIn
import Derived.TacticsInMore
import Derived.LoopNIn
import Derived.LoopIn
import Derived.Lib.Hide
import Derived.Outline
import Derived.Deep.QuietTactic
import Derived.Deep.AppendLies
import Derived.BigQuiet
import Derived.Lib.Strings
import Derived.WalkSmall
import Derived.Shelf.Small.Strs
import Derived.Shelf.Strings.Search1
import Derived.Shelf.Strings.Prefix
import Derived.Laws.AppendOwn
import Derived.Laws.OwnMore
import Derived.Laws.AppendOwnNone
import Derived.WideShapes
import Derived.Lib.TrimByte
import Derived.Lib.Bytealg
import Derived.Lib.QuietBelow
import Derived.Deep.DrawnRows
import Derived.Laws.Cover1
import Derived.WalkMore
import Derived.Shelf.Spec.SlicesGrow
import Derived.StillTailTactics
import Derived.Laws.BitsLemmas
import Derived.Laws.RangeAny
import Derived.Laws.Runes
import Derived.Lib.Builder
import Derived.Deep.WholeRow
import Derived.Lib.OthersKept
import Derived.Shelf.SlSorted.Search
import Derived.LaidEql
import Derived.Stop.Asserts
import Derived.RowKitTokens
import Derived.Deep.RegionHeld3
import Derived.Deep.RegionLaw
import Derived.Handy
import Derived.Laws.IdiomCopy
import Derived.Lib.SliceRun
import Derived.Laws.ResultCell
import Derived.Deep.LoopGhost
import Derived.Deep.DeepCutAuto
import Derived.Deep.MidRow
import Derived.BigRegion
import Derived.Test.YtpmhmippoefcfaaGreatDoorProg
import Derived.Test.YtpmhmippoefcfaaGreatDoorShelf
import Derived.Test.YtpmhmippoefcfaaGreatDoorB01
import Derived.Test.YtpmhmippoefcfaaGreatDoorB02
import Derived.Test.YtpmhmippoefcfaaGreatDoorB04
import Derived.Test.YtpmhmippoefcfaaGreatDoorB05
import Derived.Test.YtpmhmippoefcfaaGreatDoorB06
import Derived.Test.YtpmhmippoefcfaaGreatDoorB07
import Derived.Test.YtpmhmippoefcfaaGreatDoorB08
import Derived.Test.YtpmhmippoefcfaaGreatDoorB09
import Derived.Test.YtpmhmippoefcfaaGreatDoorB12
import Derived.Test.YtpmhmippoefcfaaGreatDoorB13
import Derived.Test.YtpmhmippoefcfaaGreatDoorChangeEntersE01
import Derived.Test.YtpmhmippoefcfaaGreatDoorChangeEntersE02
namespace Go.Proofs.YtpmhmippoefcfaaGreatDoor
open Go.RowKit Go.Shelf
attribute [local go_sem ↓] Go.wp_at_zero Go.wp_at_succ
theorem gnode_at {X : Nat → Prop} {l : List NodeL} {ao : Option Addr} {cap : Nat} {W : World} (h : GivesX X l (.slice ao l.length cap) W) (k : Nat) (hk : k < l.length) :
    ∃ (b off : Nat) (n : NodeL) (aon : Option Addr) (capn : Nat), ao = some ⟨b, off, none⟩ ∧ b < W.heap.size ∧ l[k] = n ∧ Rd W.heap.size 2 (.slice aon n.names.length capn) n.names.length (ents n.names) W
      ∧ W.cell? ⟨b, off + k * 8, none⟩ = some (.int .i64 n.kind) ∧ W.cell? ⟨b, off + k * 8 + 1, none⟩ = some (.int .i64 n.mode) ∧ W.cell? ⟨b, off + k * 8 + 2, none⟩ = some (.int .i64 n.owner) ∧ W.cell? ⟨b, off + k * 8 + 3, none⟩ = some (.int .i64 n.links)
      ∧ W.cell? ⟨b, off + k * 8 + 4, none⟩ = some (.int .i64 n.opn) ∧ W.cell? ⟨b, off + k * 8 + 5, none⟩ = some (.int .i64 n.up) ∧ W.cell? ⟨b, off + k * 8 + 6, none⟩ = some (.string (bs n.data)) ∧ W.cell? ⟨b, off + k * 8 + 7, none⟩ = some (.slice aon n.names.length capn) := by
  obtain ⟨ms, rfl, hr, _⟩ := h
  rw [pl_len] at hk hr
  obtain ⟨b, off, n, aon, capn, e, hb, hn, -, hrn, hc⟩ := node_at hr k hk
  exact ⟨b, off, n, aon, capn, e, hb, hn, hrn, hc⟩
theorem idx_first {l : List NodeL} {k : Nat} (hk : k < l.length) (h0 : l[k].kind = 0) (hall : ∀ j (h : j < l.length), j < k → l[j].kind ≠ 0) : idxL l 0 = (k : Int) := by
  rcases idx_cases l 0 with ⟨_, h⟩ | ⟨j, hj, h1, h2, h3⟩
  · exact absurd h0 (h k hk)
  · rw [h1, Nat.zero_add]
    rcases Nat.lt_trichotomy j k with h | h | h
    · exact absurd h2 (hall j hj h)
    · rw [h]
    · exact absurd h0 (h3 k h)
theorem idx_no {l : List NodeL} (hall : ∀ j (h : j < l.length), l[j].kind ≠ 0) : idxL l 0 = -1 := by
  rcases idx_cases l 0 with ⟨h, _⟩ | ⟨j, hj, _, h2, _⟩
  · exact h
  · exact absurd h2 (hall j hj)
theorem rused_g (l : List NodeL) (a b : Int) (hl : l.length ≤ 10000) (v : Value) (W : World) (hg : GivesN l v W) : Calls Tryz.prog 114 #[.agg #[v, .int .i64 a, .int .i64 b]] W fun e w' => e = .returned (.int .i64 (usedL l)) ∧ Below W.heap.size W w' := by
  obtain ⟨m, rfl, h⟩ := hg
  exact rused_any v m a b W h (by rw [← pl_len]; exact hl)
theorem rbytes_g (l : List NodeL) (a b : Int) (hl : Small l) (v : Value) (W : World) (hg : GivesN l v W) : Calls Tryz.prog 70 #[.agg #[v, .int .i64 a, .int .i64 b]] W fun e w' => e = .returned (.int .i64 (bytesL l)) ∧ Below W.heap.size W w' := by
  obtain ⟨m, rfl, h⟩ := hg
  exact rbytes_any v m a b W h hl
/-- An append as one step of a region that draws: to a row of the call's own, of whatever slice reads as a list of cells. -/
theorem step_append_rd {P : Program} {w : World} {ops : Array Oper} {o : Oper} {a : Act} {K : Act → World → Prop} {Q : Exit → Act → World → Prop} {E : Prop} (hgd : o.guard = none) (s x : Operand) (t : TypeId)
    (ho : o.op = .call { callee := .builtin .append, args := #[s, x], argTypes := #[t, t] })
    (base : Nat) (e : TypeId) (i : TypeInfo) (z : Value) (size bytes : Nat) (ht : P.underlying t = some (.slice e)) (hi : P.info? e = some i) (hz : i.zero = some z) (hsize : i.size = size) (hby : i.bytes = bytes) (hzs : z.cells.size = size) (hsz : 0 < size)
    (v : Value) (n : Nat) (xs : List Value) (hs : a.eval s = v) (hown : w.ownsRow base e size v n xs) (B : Nat) (vx : Value) (m : Nat) (ms : List Value) (hx : a.eval x = vx) (hr : Rd B size vx m ms w) (h1 : ∀ u ∈ ms, u.oneCell' = true)
    (h63 : n + m ≤ maxLen) (hbytes : (n + m) * bytes ≤ 140737488355328) (hbase : base ≤ w.heap.size)
    (h : ∀ v' w', w'.ownsRow base e size v' (n + m) (xs ++ ms) → w.grownBy w' v.ownBlock → K (a.put o.dst v') w') : if Region.wanted o (yielded ops a.tmps) = true then Oper.wp P o a w K Q else E := by
  have hw : Region.wanted o (yielded ops a.tmps) = true := by simp [Region.wanted, hgd]
  rw [if_pos hw]
  obtain ⟨ao, cap, rfl, hc, hm, h0, hl, hcell⟩ := hr
  cases ao with
  | none =>
    obtain rfl := h0 rfl
    obtain rfl : m = 0 := by omega
    obtain rfl := List.eq_nil_of_length_eq_zero (by simpa using hl)
    have hrun := run_append_owned_none (P := P) (w := w) base t o.type e i size ht hi v n xs hown
    unfold Oper.wp
    simp [execOp, ho, resolve, invoke, builtin, hs, hx, hrun, Result.andThen]
    exact h v w (by simpa using hown) (World.grownBy.refl w _)
  | some ad =>
    refine wp_append_own w s x t ho base e i z size bytes ht hi hz hsize hby hzs hsz v n xs hs hown ad m cap ms hx hl (fun j u hu => ?_) h1 h63 hbytes hbase fun v' w' h2 h3 _ => h v' w' h2 h3
    have hpos : 0 < m := by
      rcases Nat.eq_zero_or_pos m with h | h
      · subst h
        obtain rfl := List.eq_nil_of_length_eq_zero (by simpa using hl)
        simp at hu
      · exact h
    obtain ⟨b, off, e, _, hcc⟩ := hcell hpos
    injection e with e
    subst e
    rw [show ∀ (b off j : Nat), (⟨b, off, Option.none⟩ : Addr).add j = ⟨b, off + j, Option.none⟩ from fun b off j => by unfold Addr.add; split <;> simp_all]
    exact hcc j u hu
theorem heap_al {w : World} {o : Obj} {g : Nat} {x : Obj} (h : w.heap[g]? = some x) : (w.alloc o).heap[g]? = some x := (Below.heap_alloc _ _ _ (Array.getElem?_eq_some_iff.1 h).1).trans h
theorem grown_heap {w w' : World} {row : Option Nat} {g : Nat} {o : Obj} (h : w.grownBy w' row) (hg : w.heap[g]? = some o) (hne : row ≠ some g) : w'.heap[g]? = some o := (h.block g (Array.getElem?_eq_some_iff.1 hg).1 (Ne.symm hne)).trans hg
theorem ncells_rd {B : Nat} {n : NodeL} {v : Value} {W : World} (h : RdNm B (n, v) W) : ∀ u ∈ ncells (n, v), u.oneCell' = true := by
  intro u hu
  simp only [ncells, List.mem_cons, List.not_mem_nil, or_false] at hu
  rcases hu with rfl | rfl | rfl | rfl | rfl | rfl | rfl | rfl
  all_goals first | rfl | exact rd_slice h
theorem rd_blockW {size n g : Nat} {W : World} {xs : List Value} {t : TypeId} {fr : Nat × Nat} (h : W.heap[g]? = some (.cells xs.toArray t fr)) (hl : xs.length = n * size) (hn : n ≤ maxLen) : Rd W.heap.size size (.slice (some ⟨g, 0, none⟩) n n) n xs W :=
  rd_block h hl hn (Array.getElem?_eq_some_iff.1 h).1
theorem app_gives {Y : Nat → Prop} {ms : List NodeM} {m : NodeM} {l : List NodeL} {v v4 : Value} {W W' : World} {t : TypeId} (hml : pl ms = l) (hr : RdM W.heap.size v ms W) (ha : ∀ g, Y g → AvoidM g v ms) (hn : NodeX Y m.1 m.2 W) (hO : Old Y W) (hb : Below W.heap.size W W')
    (ho : W'.ownsRow W.heap.size t 8 v4 (l.length + 1) (cellsN ms ++ ncells m)) : GivesX Y (l ++ [m.1]) v4 W' := by
  subst hml
  have hl : (ms ++ [m]).length = (pl ms).length + 1 := by rw [List.length_append, pl_len]; rfl
  have hc : cellsN (ms ++ [m]) = cellsN ms ++ ncells m := by rw [cellsN_app]; simp [cellsN]
  refine ⟨ms ++ [m], by simp [pl], ⟨by rw [hl, hc]; exact Rd.own ho (Nat.le_refl _), fun x hx => ?_⟩, fun g hg => ⟨own_far ho (hO g hg), fun x hx => ?_⟩⟩
  · rcases List.mem_append.1 hx with hx | hx
    · exact (rdm_keep hr hb).2 x hx
    · rw [List.mem_singleton] at hx
      subst hx
      exact rdnm_keep hn.1 hb
  · rcases List.mem_append.1 hx with hx | hx
    · exact (ha g hg).2 x hx
    · rw [List.mem_singleton] at hx
      subst hx
      exact hn.2 g hg
theorem post_sets3d {P : Program} {fn : Func} {Q : Ending → World → Prop} {x : Exit} {a : Act} {w : World} {b : Nat} {u0 u1 u2 r0 r1 r2 : Value} {t : TypeId} (hb : w.heap[b]? = some (.cells #[r0, r1, r2] t (0, 0)))
    (h : ∀ W', Below b w W' → (∀ g, g ≠ b → W'.heap[g]? = w.heap[g]?) → W'.heap.size = w.heap.size → W'.heap[b]? = some (.cells #[u0, u1, u2] t (0, 0)) → bodyPost P fn Q x a W') :
    bodyPost P fn Q x a (((w.setCell ⟨b, 0, none⟩ u0).setCell ⟨b, 1, none⟩ u1).setCell ⟨b, 2, none⟩ u2).drew := sets3 (P := fun W => bodyPost P fn Q x a W.drew) hb fun W' h1 h2 h3 h4 => h W'.drew h1.drew h2 h3 h4
theorem own_empty {W : World} {base g : Nat} {t : TypeId} (h : W.heap[g]? = some (.cells #[] t (0, 0))) (hb : base ≤ g) : W.ownsRow base t 8 (.slice (some ⟨g, 0, none⟩) 0 0) 0 [] :=
  ⟨rfl, .inr ⟨g, 0, #[], rfl, hb, h, Nat.le_refl _, by unfold maxLen; omega, rfl, rfl⟩⟩
set_option maxRecDepth 100000 in
set_option maxHeartbeats 4000000 in
theorem radd_g (X : Nat → Prop) (l : List NodeL) (most room : Int) (n : NodeL) (ao aon : Option Addr) (cap capn : Nat) (w : World) (hX : Old X w) (hg : GivesX X l (.slice ao l.length cap) w) (hs : Small l) (hn : NodeX X n (.slice aon n.names.length capn) w) (hns : SmallN n) :
    Calls Tryz.prog 87 #[.agg #[.slice ao l.length cap, .int .i64 most, .int .i64 room], nval n (.slice aon n.names.length capn)] w fun e w' => AddX X l most room n e w w' := by
  have S0 := Lib.hid (St.start (G := [(l, .slice ao l.length cap)]) (N := [(n, .slice aon n.names.length capn)]) hX (fun x hx => by rw [List.mem_singleton] at hx; subst hx; exact hg) (fun x hx => by rw [List.mem_singleton] at hx; subst hx; exact hn))
  have HSm := Lib.hid hs
  have HNS := Lib.hid hns
  have HL : Hid (l.length ≤ 10000) := Lib.hid (Nat.le_trans hs.1 (by decide))
  have HRET : Hid (∀ (W : World) (cs : Array Value) (fr), W.heap[w.heap.size + 2]? = some (.cells cs 32 fr) → cs.size = 3 → ∀ tmps : Array Value, tmps.getD 4 undef = .pointer (some ⟨w.heap.size + 2, 0, none⟩) → (results Tryz.f87 tmps).run Tryz.prog W = .ok (.tuple #[.agg cs, tmps.getD 5 undef, tmps.getD 6 undef]) W) := Lib.hid fun W cs fr h hs tmps ht =>
  results_ctt (p := 4) (u := 5) (v := 6) (ty := 32) rfl tmps W (w.heap.size + 2) _ cs fr _ ht h Tryz.underlying32 rfl (by rw [hs]; kernel_rfl)
  have hbl : bytesL l ≤ 33000 := by have := bytes_take_le hs l.length; rwa [List.take_length] at this
  have hwl : weightL n ≤ 300 := weight_le hns
  have hwr := wrap_small _ _ hbl hwl
  have hlen : l.length ≤ 110 := hs.1
  have HLA : Hid (addNo l most room n = (decide (most ≤ (usedL l : Int)) || decide (room < (bytesL l : Int) + (weightL n : Int)))) := Lib.hid rfl
  clear hX hg hs hn hns
  go_enter Tryz.func87, Tryz.ntmps87
  go_upto_region 1 with (fail)
  refine code_fresh3 ?_
  intro W1 hb hA0 hA1 hA2 hs
  have S1 := Lib.hid (S0.out.new3 hb hA0 hA1 hA2)
  clear hb hA0 hA1 hA2 hs
  by_cases h1 : most ≤ (usedL l : Int)
  · have hd1 : decide (most ≤ (usedL l : Int)) = true := decide_eq_true h1
    have HNo : Hid (addNo l most room n = true) := Lib.hid (by rw [HLA.out, hd1]; rfl)
    have HA : Hid (addL l most room n = l ∧ addI l most room n = 0 ∧ addE l most room n = 10) := Lib.hid (by unfold addL addI addE; rw [HNo.out]; exact ⟨rfl, rfl, rfl⟩)
    clear h1
    have HU := fun (W : World) (hb : Below W1.heap.size W1 W) => rused_g l most room HL.out _ W ((S1.out.call hb).g 0 rfl).gives
    generalize usedL l = u at *
    obtain ⟨d0, d1, d2⟩ := cells3 (S1.out.at 0 rfl)
    have gd0 := cell_regrown d0
    have gd1 := cell_regrown d1
    have gd2 := cell_regrown d2
    refine wp_region_quiet_below (by kernel_rfl) (by kernel_rfl) ?_
    repeat (go_big_quiet_step (first | (go_at_call 114; exact Calls.regrown_of (HU _ (below_regrown W1 _ _)))))
    refine wpQuiet_nil ?_
    clear gd0 gd1 gd2
    intro _ hw'
    obtain ⟨⟨dq, osq⟩, hw''⟩ := hw'
    have hb : Below W1.heap.size W1 _ := below_regrown W1 dq osq
    rw [← hw''] at hb
    clear hw''
    rename_i W2
    clear d0 d1 d2
    have S2 := Lib.hid (S1.out.call hb)
    clear hb HU
    have h_r := (S2.out.at 2 rfl)
    have h_d := (S2.out.at 0 rfl)
    go_wp2_with (first | (refine wpList_load_row rfl 32 _ rfl _ rfl 32 _ (0, 0) _ h_d Tryz.underlying32 rfl (by kernel_rfl) ?_) | (refine wpList_store_row rfl 32 _ _ rfl _ rfl rfl h_r rfl (by kernel_rfl) rfl ?_; intro W3 hb hg hs hn; have S3 := Lib.hid (S2.out.set 2 rfl hb hg hs hn); clear hb hg hs hn))
    refine bodyPost_ret (HRET.out _ _ _ (S3.out.at 2 rfl) rfl _ rfl) rfl ?_
    obtain ⟨e1, e2, e3⟩ := HA.out
    unfold AddX
    rw [e1, e2, e3]
    exact ⟨_, _, rfl, S3.out.gX 0 rfl, S3.out.bel⟩
  have hd1 : decide (most ≤ (usedL l : Int)) = false := decide_eq_false h1
  by_cases h2 : room < (bytesL l : Int) + (weightL n : Int)
  · have hd2 : decide (room < (bytesL l : Int) + (weightL n : Int)) = true := decide_eq_true h2
    have HNo : Hid (addNo l most room n = true) := Lib.hid (by rw [HLA.out, hd1, hd2]; rfl)
    have HA : Hid (addL l most room n = l ∧ addI l most room n = 0 ∧ addE l most room n = 10) := Lib.hid (by unfold addL addI addE; rw [HNo.out]; exact ⟨rfl, rfl, rfl⟩)
    clear h1 h2
    have HU := fun (W : World) (hb : Below W1.heap.size W1 W) => rused_g l most room HL.out _ W ((S1.out.call hb).g 0 rfl).gives
    have HBy := fun (W : World) (hb : Below W1.heap.size W1 W) => rbytes_g l most room HSm.out _ W ((S1.out.call hb).g 0 rfl).gives
    have HW := fun (W : World) (_ : Below W1.heap.size W1 W) => weight_any n (.slice aon n.names.length capn) W
    generalize usedL l = u at *
    generalize bytesL l = y at *
    generalize weightL n = z at *
    obtain ⟨d0, d1, d2⟩ := cells3 (S1.out.at 0 rfl)
    obtain ⟨n0, n1, n2, n3, n4, n5, n6, n7⟩ := cells8 (S1.out.at 1 rfl)
    have gd0 := cell_regrown d0
    have gd1 := cell_regrown d1
    have gd2 := cell_regrown d2
    have gn0 := cell_regrown n0
    have gn1 := cell_regrown n1
    have gn2 := cell_regrown n2
    have gn3 := cell_regrown n3
    have gn4 := cell_regrown n4
    have gn5 := cell_regrown n5
    have gn6 := cell_regrown n6
    have gn7 := cell_regrown n7
    refine wp_region_quiet_below (by kernel_rfl) (by kernel_rfl) ?_
    repeat (go_big_quiet_step (first | (go_at_call 114; exact Calls.regrown_of (HU _ (below_regrown W1 _ _))) | (go_at_call 70; exact Calls.regrown_of (HBy _ (below_regrown W1 _ _))) | (go_at_call 102; exact Calls.regrown_of (HW _ (below_regrown W1 _ _)))))
    refine wpQuiet_nil ?_
    clear gd0 gd1 gd2 gn0 gn1 gn2 gn3 gn4 gn5 gn6 gn7
    intro _ hw'
    obtain ⟨⟨dq, osq⟩, hw''⟩ := hw'
    have hb : Below W1.heap.size W1 _ := below_regrown W1 dq osq
    rw [← hw''] at hb
    clear hw''
    rename_i W2
    clear d0 d1 d2 n0 n1 n2 n3 n4 n5 n6 n7
    have S2 := Lib.hid (S1.out.call hb)
    clear hb HU HBy HW
    have h_r := (S2.out.at 2 rfl)
    have h_d := (S2.out.at 0 rfl)
    go_wp2_with (first | (refine wpList_load_row rfl 32 _ rfl _ rfl 32 _ (0, 0) _ h_d Tryz.underlying32 rfl (by kernel_rfl) ?_) | (refine wpList_store_row rfl 32 _ _ rfl _ rfl rfl h_r rfl (by kernel_rfl) rfl ?_; intro W3 hb hg hs hn; have S3 := Lib.hid (S2.out.set 2 rfl hb hg hs hn); clear hb hg hs hn))
    refine bodyPost_ret (HRET.out _ _ _ (S3.out.at 2 rfl) rfl _ rfl) rfl ?_
    obtain ⟨e1, e2, e3⟩ := HA.out
    unfold AddX
    rw [e1, e2, e3]
    exact ⟨_, _, rfl, S3.out.gX 0 rfl, S3.out.bel⟩
  · have hd2 : decide (room < (bytesL l : Int) + (weightL n : Int)) = false := decide_eq_false h2
    have HNo : Hid (addNo l most room n = false) := Lib.hid (by rw [HLA.out, hd1, hd2]; rfl)
    clear h1 h2 HLA
    have HU := fun (W : World) (hb : Below W1.heap.size W1 W) => rused_g l most room HL.out _ W ((S1.out.call hb).g 0 rfl).gives
    have HBy := fun (W : World) (hb : Below W1.heap.size W1 W) => rbytes_g l most room HSm.out _ W ((S1.out.call hb).g 0 rfl).gives
    have HW := fun (W : World) (_ : Below W1.heap.size W1 W) => weight_any n (.slice aon n.names.length capn) W
    generalize usedL l = u at *
    generalize bytesL l = y at *
    generalize weightL n = z at *
    obtain ⟨d0, d1, d2⟩ := cells3 (S1.out.at 0 rfl)
    obtain ⟨n0, n1, n2, n3, n4, n5, n6, n7⟩ := cells8 (S1.out.at 1 rfl)
    have gd0 := cell_regrown d0
    have gd1 := cell_regrown d1
    have gd2 := cell_regrown d2
    have gn0 := cell_regrown n0
    have gn1 := cell_regrown n1
    have gn2 := cell_regrown n2
    have gn3 := cell_regrown n3
    have gn4 := cell_regrown n4
    have gn5 := cell_regrown n5
    have gn6 := cell_regrown n6
    have gn7 := cell_regrown n7
    refine wp_region_quiet_below (by kernel_rfl) (by kernel_rfl) ?_
    repeat (go_big_quiet_step (first | (go_at_call 114; exact Calls.regrown_of (HU _ (below_regrown W1 _ _))) | (go_at_call 70; exact Calls.regrown_of (HBy _ (below_regrown W1 _ _))) | (go_at_call 102; exact Calls.regrown_of (HW _ (below_regrown W1 _ _)))))
    refine wpQuiet_nil ?_
    clear gd0 gd1 gd2 gn0 gn1 gn2 gn3 gn4 gn5 gn6 gn7
    intro _ hw'
    obtain ⟨⟨dq, osq⟩, hw''⟩ := hw'
    have hb : Below W1.heap.size W1 _ := below_regrown W1 dq osq
    rw [← hw''] at hb
    clear hw''
    rename_i W2
    clear d0 d1 d2 n0 n1 n2 n3 n4 n5 n6 n7
    have S2 := Lib.hid (S1.out.call hb)
    clear hb HU HBy HW
    clear hd1 hd2 hwr hbl hwl
    obtain ⟨d0, d1, d2⟩ := cells3 (S2.out.at 0 rfl)
    go_wp2_with fail
    go_loop [7] (fun i => ∃ k : Nat, i = .int .i64 k ∧ k ≤ l.length ∧ Hid (∀ j (h : j < l.length), j < k → l[j].kind ≠ 0)) (fun i => l.length - (intOf i).toNat)
    case atStart => exact ⟨0, rfl, Nat.zero_le _, Lib.hid fun j _ h => absurd h (Nat.not_lt_zero _)⟩
    case round =>
      obtain ⟨k, rfl, hk, HK⟩ := hrel
      by_cases hlt : k < l.length
      · obtain ⟨b, off, m, aom, capm, rfl, hb, hm, -, c0, -⟩ := gnode_at (S2.out.g 0 rfl) k hlt
        have hI : decide (k < l.length) = true := decide_eq_true hlt
        by_cases h0 : m.kind = 0
        · have hJ : (m.kind == 0) = true := by simpa using h0
          have hix := idx_first hlt (by rw [hm]; exact h0) HK.out
          have HA : Hid (addL l most room n = setL l (k : Int) n ∧ addI l most room n = (k : Int) ∧ addE l most room n = 0) := Lib.hid ⟨by unfold addL setL; rw [HNo.out, hix, nat_in hlt, if_neg (by simp), if_neg (by omega), if_pos rfl], by unfold addI; rw [HNo.out, hix, if_neg (by simp), if_neg (by omega)], by unfold addE; rw [HNo.out]; rfl⟩
          clear hix h0 hm HK
          have h_n := (S2.out.at 1 rfl)
          have h_d := (S2.out.at 0 rfl)
          go_wp2_with (first | (refine wpList_load_row rfl 74 _ rfl _ rfl 74 _ (0, 0) _ h_n Tryz.underlying74 rfl (by kernel_rfl) ?_) | (refine wpList_load_row rfl 32 _ rfl _ rfl 32 _ (0, 0) _ h_d Tryz.underlying32 rfl (by kernel_rfl) ?_))
          refine (rset_g _ l most room k n _ _ W2 S2.out.oldX (S2.out.g 0 rfl) HL.out (S2.out.n 0 rfl)).mono ?_
          rintro e W3 ⟨ao3, cap3, rfl, hg3, hb⟩
          clear d0 d1 d2 h_n h_d
          have S3 := Lib.hid ((S2.out.call hb).addG hg3)
          clear hb hg3
          have h_r := (S3.out.at 2 rfl)
          go_wp2_with (first | (refine wpList_store_row rfl 32 _ _ rfl _ rfl rfl h_r rfl (by kernel_rfl) rfl ?_; intro W4 hb hg hs hn; have S4 := Lib.hid (S3.out.set 2 rfl hb hg hs hn); clear hb hg hs hn))
          refine bodyPost_ret (HRET.out _ _ _ (S4.out.at 2 rfl) rfl _ rfl) rfl ?_
          obtain ⟨e1, e2, e3⟩ := HA.out
          unfold AddX
          rw [e1, e2, e3]
          exact ⟨_, _, rfl, S4.out.gX 1 rfl, S4.out.bel⟩
        · have hJ : (m.kind == 0) = false := by simpa using h0
          have HK2 : Hid (∀ j (h : j < l.length), j < k + 1 → l[j].kind ≠ 0) := Lib.hid fun j h hj => by
            rcases Nat.lt_or_ge j k with h3 | h3
            · exact HK.out j h h3
            · obtain rfl : j = k := by omega
              rw [hm]; exact h0
          clear h0 hm HK
          go_wp2_with fail
          go_round
          case rel => exact ⟨k + 1, by go_num, hlt, HK2⟩
          case measure => simp [intOf]; omega
      · obtain rfl : k = l.length := by omega
        have hI : decide (l.length < l.length) = false := by simp
        have hix := idx_no fun j h => HK.out j h h
        have HA : Hid (addL l most room n = l ++ [n] ∧ addI l most room n = (l.length : Int) ∧ addE l most room n = 0) := Lib.hid (by unfold addL addI addE; rw [HNo.out, hix]; exact ⟨rfl, rfl, rfl⟩)
        clear hix HK hlt hk
        obtain ⟨ms, hml, hmr, hma⟩ := S2.out.g 0 rfl
        have HMA := Lib.hid hma
        have hml2 : ms.length = l.length := by rw [← pl_len, hml]
        have hrd := hmr.1
        rw [hml2] at hrd
        have HRd : Hid (Rd W2.heap.size 8 (.slice ao l.length cap) l.length (cellsN ms) W2) := Lib.hid hrd
        have HMR := Lib.hid hmr
        have HML := Lib.hid hml
        have HML2 := Lib.hid hml2
        have HO := Lib.hid (cellsN_one hmr.one)
        have HO1 := Lib.hid (ncells_rd (S2.out.n 0 rfl).1)
        obtain ⟨i0, hi0, hz0, hz1, hz2⟩ := info_parts infoNodeR
        clear hrd hmr hml hml2 hma
        go_wp2_with fail
        clear d0 d1 d2
        have HSS : Hid (∀ W, Below W2.heap.size W2 W → W.cell? ⟨w.heap.size, 0, none⟩ = some (.slice ao l.length cap) ∧ W.cell? ⟨w.heap.size + 1, 0, none⟩ = some (.int .i64 n.kind) ∧ W.cell? ⟨w.heap.size + 1, 1, none⟩ = some (.int .i64 n.mode) ∧ W.cell? ⟨w.heap.size + 1, 2, none⟩ = some (.int .i64 n.owner) ∧ W.cell? ⟨w.heap.size + 1, 3, none⟩ = some (.int .i64 n.links) ∧ W.cell? ⟨w.heap.size + 1, 4, none⟩ = some (.int .i64 n.opn) ∧ W.cell? ⟨w.heap.size + 1, 5, none⟩ = some (.int .i64 n.up) ∧ W.cell? ⟨w.heap.size + 1, 6, none⟩ = some (.string (bs n.data)) ∧ W.cell? ⟨w.heap.size + 1, 7, none⟩ = some (.slice aon n.names.length capn)) := Lib.hid fun W hb => by
          have hS := S2.out.call hb
          exact ⟨(cells3 (hS.at 0 rfl)).1, cells8 (hS.at 1 rfl)⟩
        have bU : Below W2.heap.size W2 W2 := Below.refl _ _
        have hlt2 : w.heap.size + 1 < W2.heap.size := (S2.out.own 1 rfl).2
        have hq1 : ∀ A B : Obj, ((W2.alloc A).alloc B).heap[W2.heap.size + 1]? = some B := fun A B => by have := heap_alloc_new (W2.alloc A) B; simpa using this
        have hq0 : ∀ A B : Obj, ((W2.alloc A).alloc B).heap[W2.heap.size]? = some A := fun A B => heap_al (heap_alloc_new _ _)
        go_region_held3 (fun W => W.cell? ⟨w.heap.size, 0, none⟩ = some (.slice ao l.length cap) ∧ W.cell? ⟨w.heap.size + 1, 0, none⟩ = some (.int .i64 n.kind) ∧ W.cell? ⟨w.heap.size + 1, 1, none⟩ = some (.int .i64 n.mode) ∧ W.cell? ⟨w.heap.size + 1, 2, none⟩ = some (.int .i64 n.owner) ∧ W.cell? ⟨w.heap.size + 1, 3, none⟩ = some (.int .i64 n.links) ∧ W.cell? ⟨w.heap.size + 1, 4, none⟩ = some (.int .i64 n.opn) ∧ W.cell? ⟨w.heap.size + 1, 5, none⟩ = some (.int .i64 n.up) ∧ W.cell? ⟨w.heap.size + 1, 6, none⟩ = some (.string (bs n.data)) ∧ W.cell? ⟨w.heap.size + 1, 7, none⟩ = some (.slice aon n.names.length capn))
          (first
            | (refine HSS.out _ ?_; go_grown; done)
            | (go_keep; done))
          (first
            | (refine step_append_rd (by rfl) (.tmp 44) (.tmp 46) 30 (by rfl) W2.heap.size 74 i0 _ 8 88 Tryz.underlying30 hi0 hz0 hz1 hz2 rfl (by decide) _ 0 [] (by rfl) (own_empty (by first | exact heap_alloc_new _ _ | exact hq0 _ _ | exact hq1 _ _) (by simp <;> omega)) W2.heap.size _ l.length (cellsN ms) (by rfl) (HRd.out.below (by go_grown)) HO.out (by unfold maxLen; omega) (by omega) (by simp <;> omega) ?_; intro v3 w3 ho3 hgr3; rw [Nat.zero_add, List.nil_append] at ho3; have hB3 : Below W2.heap.size W2 w3 := Below.grown (by go_grown) hgr3 (by simp <;> omega) (fun q hq => by simp [Value.ownBlock] at hq; omega); have h99 := hB3.size)
            | (refine step_append_rd (by rfl) (.tmp 47) (.tmp 49) 30 (by rfl) W2.heap.size 74 i0 _ 8 88 Tryz.underlying30 hi0 hz0 hz1 hz2 rfl (by decide) v3 l.length (cellsN ms) (by rfl) (by first | exact ho3 | exact ho3.alloc _) _ _ 1 (ncells (n, .slice aon n.names.length capn)) (by rfl) (rd_blockW (n := 1) (by first | exact heap_alloc_new _ _ | exact grown_heap hgr3 (hq1 _ _) (by simp [Value.ownBlock]) | exact grown_heap hgr3 (hq0 _ _) (by simp [Value.ownBlock])) rfl (by unfold maxLen; omega)) HO1.out (by unfold maxLen; omega) (by omega) (by have := hB3.size; simp <;> omega) ?_; intro v4 w4 ho4 hgr4; have hB4 : Below W2.heap.size W2 w4 := Below.grown (by go_grown) hgr4 (by first | exact h99 | (simp; omega)) (fun q hq => (ho3.lt q hq).1))
            | fail)
        all_goals
          have hG := app_gives (m := (n, .slice aon n.names.length capn)) HML.out HMR.out HMA.out (S2.out.n 0 rfl) S2.out.oldX hB4 ho4
          obtain ⟨g4, cap4, rfl⟩ := own_form ho4
          have S99 := Lib.hid ((S2.out.call hB4).addG hG)
          clear hB4 hG ho4 hgr4 ho3 hgr3 hB3 h99 hq0 hq1 bU HSS HMR HMA HML HO HO1 HRd
          obtain ⟨d0, d1, d2⟩ := cells3 (S99.out.at 0 rfl)
          obtain ⟨r0, r1, r2⟩ := cells3 (S99.out.at 2 rfl)
          have fr := fun j => Lib.frozen_of_heap (S99.out.at 2 rfl) j
          go_wp2_with fail
          go_region
          all_goals
            go_wp2_with fail
            refine post_sets3d (S99.out.at 2 rfl) ?_
            intro W98 hb hg hs hn
            have S98 := S99.out.set 2 rfl hb hg hs hn
            refine bodyPost_ret (HRET.out _ _ _ hn rfl _ rfl) rfl ?_
            obtain ⟨e1, e2, e3⟩ := HA.out
            unfold AddX
            rw [e1, e2, e3]
            have hl : (l ++ [n]).length = l.length + 1 := by simp
            rw [hl]
            exact ⟨_, _, rfl, S98.gX 1 rfl, S98.bel⟩
end Go.Proofs.YtpmhmippoefcfaaGreatDoor
