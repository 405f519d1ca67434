/-
  slices.Grow of nodes, laid; slices.Concat. slices.Concat of nodes; slices.IndexFunc with free. The program's Add. What the changes of a disk have in common: what is told; the ways, of whatever reads as these nodes. A walk's arms: a whole block read, and written; a new block by name; a load that is taken first in a region that draws.
-/
import Derived.RangeFuncNested
import Derived.RangeFuncBound
import Derived.RangeFuncCalls
import Derived.RangeFuncLeaves
import Derived.RangeFuncBox
import Derived.Shelf.Abstract
import Derived.Shelf.RegionOpen
import Derived.WalkKit
import Derived.OwnWalkIn
import Derived.TacticsInMore
import Derived.LoopNIn
import Derived.LoopIn
import Derived.Lib.Hide
import Derived.Outline
import Derived.Deep.QuietTactic
import Derived.Deep.AppendLies
import Derived.BigQuiet
import Derived.Lib.Strings
import Derived.WalkSmall
import Derived.Shelf.Small.Strs
import Derived.Shelf.Strings.Search1
import Derived.Shelf.Strings.Prefix
import Derived.Laws.AppendOwn
import Derived.Laws.OwnMore
import Derived.Laws.AppendOwnNone
import Derived.WideShapes
import Derived.Laws.RangeAny
import Derived.Laws.Runes
import Derived.Lib.Builder
import Derived.Deep.WholeRow
import Derived.WalkMore
import Derived.Lib.OthersKept
import Derived.Lib.QuietBelow
import Derived.Deep.DrawnRows
import Derived.Laws.Cover1
import Derived.Shelf.SlSorted.Search
import Derived.Shelf.Spec.SlicesGrow
import Derived.StillTailTactics
import Derived.Deep.RegionHeld3
import Derived.Deep.RegionLaw
import Derived.Handy
import Derived.Laws.IdiomCopy
import Derived.Lib.SliceRun
import Derived.Laws.ResultCell
import Derived.Lib.TrimByte
import Derived.Lib.Bytealg
import Derived.Laws.BitsLemmas
import Derived.LaidEql
import Derived.Stop.Asserts
import Derived.RowKitTokens
import Derived.Deep.LoopGhost
import Derived.Deep.DeepCutAuto
import Derived.Deep.MidRow
import Derived.Test.YtpmhmippoefcfaaGreatDoorProg
import Derived.Test.YtpmhmippoefcfaaGreatDoorShelf
import Derived.Test.YtpmhmippoefcfaaGreatDoorB01
import Derived.Test.YtpmhmippoefcfaaGreatDoorB02
import Derived.Test.YtpmhmippoefcfaaGreatDoorB03
import Derived.Test.YtpmhmippoefcfaaGreatDoorB04
import Derived.Test.YtpmhmippoefcfaaGreatDoorB05
import Derived.Test.YtpmhmippoefcfaaGreatDoorB06
import Derived.Test.YtpmhmippoefcfaaGreatDoorB07
import Derived.Test.YtpmhmippoefcfaaGreatDoorB08
import Derived.Test.YtpmhmippoefcfaaGreatDoorB10
import Derived.Test.YtpmhmippoefcfaaGreatDoorB12
namespace Go.Proofs.YtpmhmippoefcfaaGreatDoor
open Go.RowKit Go.Shelf
open Go.WideShapes (add_plain)
attribute [local go_sem ↓] Go.wp_at_zero Go.wp_at_succ
def growRenN : Go.Shelf.Ren := ⟨fun | 4 => 130 | n => n, fun | 0 => 0 | 3 => 3 | 4 => 4 | 9 => 9 | 20 => 20 | 22 => 22 | 25 => 63 | n => n, fun | n => n⟩
theorem growLaidN : Lays8.n4 Tryz.prog growRenN := {
  mixed := by kernel_rfl
  f4 := ⟨ "slices.Grow[[]flagstone/disk.Node,flagstone/disk.Node]", by decide, Tryz.func130.trans (congrArg some (by kernel_rfl))⟩
  t0 := Tryz.underlying0
  a0 := Tryz.isAgg0
  z0 := Tryz.sizeOf0
  v0 := Tryz.zeroValue0
  t3 := Tryz.underlying3
  a3 := Tryz.isAgg3
  z3 := Tryz.sizeOf3
  v3 := Tryz.zeroValue3
  t4 := Tryz.underlying4
  a4 := Tryz.isAgg4
  z4 := Tryz.sizeOf4
  v4 := Tryz.zeroValue4
  t9 := Tryz.underlying9
  a9 := Tryz.isAgg9
  z9 := Tryz.sizeOf9
  v9 := Tryz.zeroValue9
  t20 := Tryz.underlying20
  a20 := Tryz.isAgg20
  z20 := Tryz.sizeOf20
  v20 := Tryz.zeroValue20
  t22 := Tryz.underlying22
  a22 := Tryz.isAgg22
  z22 := Tryz.sizeOf22
  v22 := Tryz.zeroValue22 }
def GrowIsN (e : Ending) (W W' : World) : Prop := ∃ v, e = .returned v ∧ W'.ownsRow W.heap.size 63 8 v 0 [] ∧ Below W.heap.size W W'
/-- A new row with room for n. -/
theorem growN_any (n : Nat) (hn : n ≤ 1000000) (w : World) : Calls Tryz.prog 130 #[.slice none 0 0, .int .i64 n] w fun e w' => GrowIsN e w w' := by
  obtain ⟨i0, hi0, hz0, hz1, hz2⟩ := info_parts infoNode
  rcases Nat.eq_zero_or_pos n with rfl | hp
  · refine (Any8.slices_Grow_room growLaidN none 0 0 0 w (Nat.le_refl _) (by decide) (by decide) (by decide)).mono ?_
    rintro e w' ⟨rfl, rfl⟩
    exact ⟨_, rfl, ⟨rfl, .inl ⟨rfl, rfl⟩⟩, Below.refl _ _⟩
  · refine (Any8.slices_Grow_grow growLaidN i0 _ hi0 hz0 (by omega) none 0 0 n [] w (Nat.le_refl _) (by omega) (by rw [hz2]; omega) (by omega) (by simp) (fun _ => rfl) (fun a h => by cases h)).mono ?_
    rintro e w' ⟨rfl, rfl⟩
    have h1 := grownCap_ge w (0 + n) 0 63
    have h2 := grownCap_le_maxLen w (0 + n) 0 63 (by unfold maxLen; omega)
    refine ⟨_, rfl, ⟨rfl, .inr ⟨w.heap.size, _, _, rfl, Nat.le_refl _, heap_alloc_new w.drew _, Nat.zero_le _, h2, ?_, by simp⟩⟩, ((Below.refl _ w).drew).alloc (Nat.le_refl _) _⟩
    show (#[] ++ _ ++ _ : Array Value).size = grownCap w (0 + n) 0 63 * 8
    rw [Array.size_append, Array.size_append, size_zeroCells, size_zeroCells]
    show 0 + (0 + n - 0) * 8 + (grownCap w (0 + n) 0 63 - (0 + n)) * 8 = _
    omega
end Go.Proofs.YtpmhmippoefcfaaGreatDoor
namespace Go.Proofs.YtpmhmippoefcfaaGreatDoor
open Go.RowKit Go.Shelf
attribute [local go_sem ↓] Go.wp_at_zero Go.wp_at_succ
/-- Slices that are to be joined: each value, and what it reads as. -/
abbrev SrcN := Value × List NodeM
def allM (S : List SrcN) : List NodeM := (S.map (·.2)).flatten
theorem allM_succ (S : List SrcN) (k : Nat) (h : k < S.length) : allM (S.take (k + 1)) = allM (S.take k) ++ S[k].2 := by
  unfold allM
  rw [List.take_succ_eq_append_getElem h, List.map_append, List.flatten_append]
  simp
theorem allM_len (S : List SrcN) (hs : ∀ x ∈ S, x.2.length ≤ 10001) (h3 : S.length ≤ 3) (k : Nat) : (allM (S.take k)).length ≤ 30003 := by
  have main : ∀ S : List SrcN, (∀ x ∈ S, x.2.length ≤ 10001) → (allM S).length ≤ S.length * 10001 := by
    intro S
    induction S with
    | nil => intro _; exact Nat.le_refl _
    | cons a S ih =>
      intro h
      have h1 := ih fun x hx => h x (by simp [hx])
      have h2 := h a (by simp)
      have : (allM (a :: S)).length = a.2.length + (allM S).length := by simp [allM]
      rw [this, List.length_cons]
      omega
  have h1 := main (S.take k) fun x hx => hs x (List.mem_of_mem_take hx)
  have h2 : (S.take k).length ≤ 3 := by rw [List.length_take]; omega
  omega
/-- What the joining reads. -/
def SrcOkN (B b off : Nat) (S : List SrcN) (w : World) : Prop := ∀ k (h : k < S.length), w.cell? ⟨b, off + k, none⟩ = some S[k].1 ∧ RdM B S[k].1 S[k].2 w
set_option maxRecDepth 100000 in
set_option maxHeartbeats 4000000 in
theorem concatN_any (b off cap : Nat) (S : List SrcN) (w : World) (hb : b < w.heap.size) (hS : SrcOkN w.heap.size b off S w) (hs : ∀ x ∈ S, x.2.length ≤ 10001) (h3 : S.length ≤ 3) :
    Calls Tryz.prog 113 #[.slice (some ⟨b, off, none⟩) S.length cap] w fun e w' => ∃ v, e = .returned v ∧ w'.ownsRow w.heap.size 63 8 v (allM S).length (cellsN (allM S)) ∧ Below w.heap.size w w' := by
  obtain ⟨i0, hi0, hz0, hz1, hz2⟩ := info_parts infoNode
  have HS := Lib.hid hS
  have HL := Lib.hid (allM_len S hs h3)
  clear hS hs
  go_enter Tryz.func113, Tryz.ntmps113
  go_wp2_with fail
  go_loop [3, 11] (fun z i => ∃ k : Nat, i = .int .i64 k ∧ k ≤ S.length ∧ z = .int .i64 (allM (S.take k)).length) (fun _ i => S.length - (intOf i).toNat)
  case atStart => exact ⟨0, rfl, Nat.zero_le _, rfl⟩
  case round =>
    obtain ⟨k, rfl, hk, rfl⟩ := hrel
    have hkl := HL.out k
    by_cases hlt : k < S.length
    · obtain ⟨hc0, hr⟩ := HS.out k hlt
      have hl1 : Hid ((allM (S.take (k + 1))).length = (allM (S.take k)).length + S[k].2.length) := Lib.hid (by rw [allM_succ S k hlt, List.length_append])
      have hkl1 := HL.out (k + 1)
      rw [hl1.out] at hkl1
      obtain ⟨ao, cap', e, _, _⟩ := rdm_form hr
      rw [e] at hc0
      clear e hr
      generalize (allM (S.take k)).length = z at *
      generalize S[k].2.length = y at *
      go_wp2_with fail
      go_round
      case rel => exact ⟨k + 1, by go_num, hlt, by rw [hl1.out]; go_num⟩
      case measure => simp [intOf]; omega
    · have hke : k = S.length := by omega
      have HT : Hid (S.take k = S) := Lib.hid (by rw [hke, List.take_length])
      have hI2 : decide (k < S.length) = false := by simp; omega
      rw [HT.out] at hkl ⊢
      clear hke hlt
      go_wp2_with fail
      refine (growN_any (allM S).length (by omega) _).mono ?_
      rintro e w1 ⟨v, rfl, hown, hb1⟩
      have HO := Lib.hid hown
      have HB := Lib.hid hb1
      clear hown hb1
      go_wp2_with fail
      go_loopw [6, 27] (fun o i wr => ∃ k : Nat, i = .int .i64 k ∧ k ≤ S.length ∧ wr.ownsRow w.heap.size 63 8 o (allM (S.take k)).length (cellsN (allM (S.take k))) ∧ Below w.heap.size w wr) (fun _ i _ => S.length - (intOf i).toNat)
      case atStart => exact ⟨0, rfl, Nat.zero_le _, HO.out, HB.out⟩
      case round =>
        obtain ⟨k, rfl, hk, hown, hBr⟩ := hrel
        have sB := hBr.size
        by_cases hlt : k < S.length
        · obtain ⟨hc0, hr⟩ := HS.out k hlt
          have hc1 := (hBr.cell (p := ⟨b, off + k, none⟩) hb).trans hc0
          have hl1 : Hid ((allM (S.take (k + 1))).length = (allM (S.take k)).length + S[k].2.length) := Lib.hid (by rw [allM_succ S k hlt, List.length_append])
          have he1 : Hid (cellsN (allM (S.take (k + 1))) = cellsN (allM (S.take k)) ++ cellsN S[k].2) := Lib.hid (by rw [allM_succ S k hlt, cellsN_app])
          have hkl1 := HL.out (k + 1)
          rw [hl1.out] at hkl1
          have hr1 := Lib.hid (hr.below hBr).1
          have HO1 := Lib.hid (cellsN_one hr.one)
          obtain ⟨ao, cap', e, _, _⟩ := rdm_form hr
          rw [e] at hc1 hr1
          clear e hr hc0
          generalize (allM (S.take k)).length = z at *
          generalize S[k].2 = y at *
          go_wp2_with (at_builtin; go_loud (refine wpList_append_rd rfl (.tmp 31) (.tmp 32) 22 rfl w.heap.size 63 i0 _ 8 88 Tryz.underlying22 hi0 hz0 hz1 hz2 rfl (by decide) _ z _ rfl hown w.heap.size _ y.length (cellsN y) rfl hr1.out HO1.out (by unfold maxLen; omega) (by omega) sB ?_))
          intro v3 w3 ho3 hgr3
          have hB3 : Below w.heap.size w w3 := hBr.grown hgr3 sB (fun j ej => (hown.lt j ej).1)
          rw [← he1.out, ← hl1.out] at ho3
          go_wp2_with fail
          go_roundw
          case rel => exact ⟨k + 1, by go_num, hlt, ho3, hB3⟩
          case measure => simp [intOf]; omega
        · have hke : k = S.length := by omega
          have HT2 : Hid (S.take k = S) := Lib.hid (by rw [hke, List.take_length])
          have hI2 : decide (k < S.length) = false := by simp; omega
          rw [HT2.out] at hown
          clear hke hlt
          go_wp2_with fail
          go_ret
          exact ⟨_, rfl, hown, hBr⟩
theorem idx_drop (l : List NodeL) (k : Nat) (h : k < l.length) : idxL (l.drop k) k = if l[k].kind = 0 then (k : Int) else idxL (l.drop (k + 1)) (k + 1) := by
  rw [List.drop_eq_getElem_cons h]
  rfl
set_option maxRecDepth 100000 in
set_option maxHeartbeats 1000000 in
theorem index_any (v : Value) (ms : List NodeM) (w : World) (hv : RdM w.heap.size v ms w) (hl : ms.length ≤ 10000) :
    Calls Tryz.prog 112 #[v, .func (.func 73) #[] #[]] w fun e w' => e = .returned (.int .i64 (idxL (pl ms) 0)) ∧ Below w.heap.size w w' := by
  obtain ⟨ao, cap, rfl, _, _⟩ := rdm_form hv
  have HV := Lib.hid hv
  clear hv
  go_enter Tryz.func112, Tryz.ntmps112
  go_wp2_with fail
  go_loopw [8] (fun i wr => ∃ k : Nat, i = .int .i64 k ∧ k ≤ ms.length ∧ Hid (idxL (pl ms) 0 = idxL ((pl ms).drop k) k) ∧ Below w.heap.size w wr) (fun i _ => ms.length - (intOf i).toNat)
  case atStart => exact ⟨0, rfl, Nat.zero_le _, Lib.hid rfl, Below.refl _ _⟩
  case round =>
    obtain ⟨k, rfl, hk, hI, hBr⟩ := hrel
    have sB := hBr.size
    by_cases hlt : k < ms.length
    · obtain ⟨b, off, n, aon, capn, rfl, hb, hn, -, -, c0, c1, c2, c3, c4, c5, c6, c7⟩ := node_at (HV.out.below hBr) k hlt
      have hs := hI.out.trans (idx_drop (pl ms) k (by rw [pl_len]; exact hlt))
      rw [hn] at hs
      clear hn
      by_cases h0 : n.kind = 0
      · have hd : decide (n.kind = 0) = true := by simpa using h0
        rw [if_pos h0] at hs
        have HS := Lib.hid hs
        clear h0 hs
        go_wp2_with fail
        refine (free_any n _ _).mono ?_
        rintro e w1 ⟨rfl, hb2⟩
        rw [hd]
        have hb3 := ret_tr hBr hb2
        go_wp2_with fail
        go_ret
        exact ⟨ret_int HS.out.symm, hb3⟩
      · have hd : decide (n.kind = 0) = false := by simpa using h0
        rw [if_neg h0] at hs
        have HS := Lib.hid hs
        clear h0 hs
        go_wp2_with fail
        refine (free_any n _ _).mono ?_
        rintro e w1 ⟨rfl, hb2⟩
        rw [hd]
        have hb3 := ret_tr hBr hb2
        go_wp2_with fail
        go_roundw
        case rel => exact ⟨k + 1, by go_num, hlt, HS, hb3⟩
        case measure => simp [intOf]; omega
    · have hke : k = ms.length := by omega
      have HF : Hid (idxL (pl ms) 0 = -1) := Lib.hid (by rw [hI.out, List.drop_of_length_le (by rw [pl_len]; omega)]; rfl)
      have hI2 : decide (k < ms.length) = false := by simp; omega
      clear hke hlt
      go_wp2_with fail
      go_ret
      exact ⟨ret_int HF.out.symm, hBr⟩
end Go.Proofs.YtpmhmippoefcfaaGreatDoor
namespace Go.Proofs.YtpmhmippoefcfaaGreatDoor
open Go.RowKit Go.Shelf
attribute [local go_sem ↓] Go.wp_at_zero Go.wp_at_succ
/-- What Add tells. -/
def AddIs (l : List NodeL) (most room : Int) (n : NodeL) (e : Ending) (W W' : World) : Prop :=
  ∃ v, e = .returned (.tuple #[.agg #[v, .int .i64 most, .int .i64 room], .int .i64 (addI l most room n), .int .i64 (addE l most room n)]) ∧ GivesN (addL l most room n) v W' ∧ Below W.heap.size W W'
/-- The same, with where it lies: in no old block that what came in does not lie in. -/
def AddIsM (v : Value) (ms : List NodeM) (most room : Int) (n : NodeL) (e : Ending) (W W' : World) : Prop :=
  ∃ v' ms', e = .returned (.tuple #[.agg #[v', .int .i64 most, .int .i64 room], .int .i64 (addI (pl ms) most room n), .int .i64 (addE (pl ms) most room n)]) ∧ pl ms' = addL (pl ms) most room n ∧ RdM W'.heap.size v' ms' W' ∧ Below W.heap.size W W' ∧ ∀ g, g < W.heap.size → AvoidM g v ms → AvoidM g v' ms'
theorem AddIsM.plain {v : Value} {ms : List NodeM} {most room : Int} {n : NodeL} {e : Ending} {W W' : World} (h : AddIsM v ms most room n e W W') : AddIs (pl ms) most room n e W W' := by
  obtain ⟨v', ms', h1, h2, h3, h4, _⟩ := h
  exact ⟨v', h1, ⟨ms', h2, h3⟩, h4⟩
theorem add_no {ms : List NodeM} {v : Value} {most room : Int} {n : NodeL} {w W : World} (h : addNo (pl ms) most room n = true) (hv : RdM w.heap.size v ms w) (hb : Below w.heap.size w W) : AddIsM v ms most room n (.returned (.tuple #[.agg #[v, .int .i64 most, .int .i64 room], .int .i64 0, .int .i64 10])) w W :=
  ⟨v, ms, by unfold addI addE; rw [h]; rfl, by unfold addL; rw [h]; rfl, rdm_keep hv hb, hb, fun _ _ h => h⟩
theorem wrap_small (a b : Nat) (ha : a ≤ 33000) (hb : b ≤ 300) : IntKind.i64.wrap ((a : Int) + (b : Int)) = (a : Int) + (b : Int) := by
  exact Go.IntWalk.i64_in _ (by omega)
set_option maxRecDepth 100000 in
set_option maxHeartbeats 4000000 in
theorem add_anyM (v : Value) (ms : List NodeM) (most room : Int) (n : NodeL) (vn : Value) (w : World) (hv : RdM w.heap.size v ms w) (hsm : Small (pl ms)) (hn : RdNm w.heap.size (n, vn) w) (hns : SmallN n) :
    Calls Tryz.prog 84 #[.agg #[v, .int .i64 most, .int .i64 room], nval n vn] w fun e w' => AddIsM v ms most room n e w w' := by
  have hl : ms.length ≤ 110 := by have := hsm.1; rwa [pl_len] at this
  have hnl : n.names.length ≤ 10000 := by have := hns.2; omega
  obtain ⟨ao, cap, rfl, _, _⟩ := rdm_form hv
  obtain ⟨aon, capn, e, _, _⟩ := Rd.form hn
  have e' : vn = .slice aon n.names.length capn := e
  subst e'
  have HV := Lib.hid hv
  have HN := Lib.hid hn
  have HS := Lib.hid hsm
  clear hv hn e hsm
  have hret : ∀ (W : World) (cs : Array Value) (fr), W.heap[w.heap.size + 2]? = some (.cells cs 24 fr) → cs.size = 3 → ∀ tmps : Array Value, tmps.getD 4 undef = .pointer (some ⟨w.heap.size + 2, 0, none⟩) → (results Tryz.f84 tmps).run Tryz.prog W = .ok (.tuple #[.agg cs, tmps.getD 5 undef, tmps.getD 6 undef]) W := fun W cs fr h hs tmps ht =>
    results_ctt (p := 4) (u := 5) (v := 6) (ty := 24) rfl tmps W (w.heap.size + 2) _ cs fr _ ht h Tryz.underlying24 rfl (by rw [hs]; kernel_rfl)
  by_cases h1 : most ≤ (usedL (pl ms) : Int)
  · have hd1 : decide (most ≤ (usedL (pl ms) : Int)) = true := by simpa using h1
    have HNo : Hid (addNo (pl ms) most room n = true) := Lib.hid (by unfold addNo; rw [hd1]; rfl)
    clear h1
    go_enter Tryz.func84, Tryz.ntmps84
    go_wp2_with fail
    refine fresh3 (P := fun W => Code.wp _ _ _ _ W) ?_
    intro W0 hb0 hP hQ hR hs0
    have HU : ∀ W, Below W0.heap.size W0 W → Calls Tryz.prog 42 #[.agg #[.slice ao ms.length cap, .int .i64 most, .int .i64 room]] W fun e w' => e = .returned (.int .i64 (usedL (pl ms))) ∧ Below W.heap.size W w' :=
      fun W hb => used_any _ ms most room W (rdm_keep HV.out (ret_tr hb0 hb)) (by omega)
    obtain ⟨p0, p1, p2⟩ := cells3 hP
    have pp0 := cell_regrown p0
    have pp1 := cell_regrown p1
    have pp2 := cell_regrown p2
    generalize usedL (pl ms) = u at *
    refine wp_region_quiet_below (by kernel_rfl) (by kernel_rfl) ?_
    repeat (go_big_quiet_step ((go_at_call 42; exact Calls.regrown_of (HU _ (below_regrown W0 _ _)))))
    refine wpQuiet_nil ?_
    clear pp0 pp1 pp2
    intro _ hw'
    obtain ⟨⟨dq, osq⟩, hw''⟩ := hw'
    have hbg : Below W0.heap.size W0 _ := below_regrown W0 dq osq
    rw [← hw''] at hbg
    clear hw''
    rename_i W2
    have hP2 := (hbg.block _ (by omega)).trans hP
    have hQ2 := (hbg.block _ (by omega)).trans hQ
    have hR2 := (hbg.block _ (by omega)).trans hR
    have hB2 := ret_tr hb0 hbg
    have hs2 := hbg.size
    clear p0 p1 p2 
    obtain ⟨p0, p1, p2⟩ := cells3 hP2
    obtain ⟨q0, q1, q2⟩ := cells3 hR2
    have rf := fun j => Lib.frozen_of_heap hR2 j
    clear hP hQ hR hP2 hQ2
    go_wp2_with fail
    refine sets3 (P := fun W => bodyPost _ _ _ _ _ W) hR2 ?_
    intro W3 hb3 hg3 hs3 hR3
    refine bodyPost_ret (hret _ _ _ hR3 rfl _ rfl) rfl ?_
    exact add_no HNo.out HV.out (hB2.trans (hb3.mono (by omega)))
  have hd1 : decide (most ≤ (usedL (pl ms) : Int)) = false := by simpa using h1
  by_cases h2 : room < (bytesL (pl ms) : Int) + (weightL n : Int)
  · have hd2 : decide (room < (bytesL (pl ms) : Int) + (weightL n : Int)) = true := by simpa using h2
    have HNo : Hid (addNo (pl ms) most room n = true) := Lib.hid (by unfold addNo; rw [hd1, hd2]; rfl)
    clear h1 h2
    have hD : n.data.length ≤ 300 := hns.1
    have hbl : bytesL (pl ms) ≤ 33000 := by have := bytes_take_le HS.out (pl ms).length; rwa [List.take_length] at this
    have hwl : weightL n ≤ 300 := weight_le hns
    have hwr := wrap_small _ _ hbl hwl
    go_enter Tryz.func84, Tryz.ntmps84
    go_wp2_with fail
    refine fresh3 (P := fun W => Code.wp _ _ _ _ W) ?_
    intro W0 hb0 hP hQ hR hs0
    have HU : ∀ W, Below W0.heap.size W0 W → Calls Tryz.prog 42 #[.agg #[.slice ao ms.length cap, .int .i64 most, .int .i64 room]] W fun e w' => e = .returned (.int .i64 (usedL (pl ms))) ∧ Below W.heap.size W w' :=
      fun W hb => used_any _ ms most room W (rdm_keep HV.out (ret_tr hb0 hb)) (by omega)
    have HBy : ∀ W, Below W0.heap.size W0 W → Calls Tryz.prog 110 #[.agg #[.slice ao ms.length cap, .int .i64 most, .int .i64 room]] W fun e w' => e = .returned (.int .i64 (bytesL (pl ms))) ∧ Below W.heap.size W w' :=
      fun W hb => bytes_any _ ms most room W (rdm_keep HV.out (ret_tr hb0 hb)) HS.out
    have HSt : ∀ W, Calls Tryz.prog 111 #[nval n (.slice aon n.names.length capn)] W fun e w' => e = .returned (.int .i64 (weightL n)) ∧ Below W.heap.size W w' := fun W => stored_any n _ W
    obtain ⟨p0, p1, p2⟩ := cells3 hP
    obtain ⟨q0, q1, q2, q3, q4, q5, q6, q7⟩ := cells8 hQ
    have pp0 := cell_regrown p0
    have pp1 := cell_regrown p1
    have pp2 := cell_regrown p2
    have qq0 := cell_regrown q0
    have qq1 := cell_regrown q1
    have qq2 := cell_regrown q2
    have qq3 := cell_regrown q3
    have qq4 := cell_regrown q4
    have qq5 := cell_regrown q5
    have qq6 := cell_regrown q6
    have qq7 := cell_regrown q7
    generalize usedL (pl ms) = u at *
    generalize bytesL (pl ms) = y at *
    generalize hz : weightL n = z at *
    refine wp_region_quiet_below (by kernel_rfl) (by kernel_rfl) ?_
    repeat (go_big_quiet_step (first | (go_at_call 42; exact Calls.regrown_of (HU _ (below_regrown W0 _ _))) | (go_at_call 110; exact Calls.regrown_of (HBy _ (below_regrown W0 _ _))) | (go_at_call 111; exact Calls.regrown_of (HSt _))))
    refine wpQuiet_nil ?_
    clear pp0 pp1 pp2 qq0 qq1 qq2 qq3 qq4 qq5 qq6 qq7
    intro _ hw'
    obtain ⟨⟨dq, osq⟩, hw''⟩ := hw'
    have hbg : Below W0.heap.size W0 _ := below_regrown W0 dq osq
    rw [← hw''] at hbg
    clear hw''
    rename_i W2
    have hP2 := (hbg.block _ (by omega)).trans hP
    have hQ2 := (hbg.block _ (by omega)).trans hQ
    have hR2 := (hbg.block _ (by omega)).trans hR
    have hB2 := ret_tr hb0 hbg
    have hs2 := hbg.size
    clear p0 p1 p2 q0 q1 q2 q3 q4 q5 q6 q7
    obtain ⟨p0, p1, p2⟩ := cells3 hP2
    obtain ⟨q0, q1, q2⟩ := cells3 hR2
    have rf := fun j => Lib.frozen_of_heap hR2 j
    clear hP hQ hR hP2 hQ2
    go_wp2_with fail
    refine sets3 (P := fun W => bodyPost _ _ _ _ _ W) hR2 ?_
    intro W3 hb3 hg3 hs3 hR3
    refine bodyPost_ret (hret _ _ _ hR3 rfl _ rfl) rfl ?_
    exact add_no HNo.out HV.out (hB2.trans (hb3.mono (by omega)))
  · have hd2 : decide (room < (bytesL (pl ms) : Int) + (weightL n : Int)) = false := by simpa using h2
    have HNo : Hid (addNo (pl ms) most room n = false) := Lib.hid (by unfold addNo; rw [hd1, hd2]; rfl)
    clear h1 h2
    have hD : n.data.length ≤ 300 := hns.1
    have hbl : bytesL (pl ms) ≤ 33000 := by have := bytes_take_le HS.out (pl ms).length; rwa [List.take_length] at this
    have hwl : weightL n ≤ 300 := weight_le hns
    have hwr := wrap_small _ _ hbl hwl
    go_enter Tryz.func84, Tryz.ntmps84
    go_wp2_with fail
    refine fresh3 (P := fun W => Code.wp _ _ _ _ W) ?_
    intro W0 hb0 hP hQ hR hs0
    have HU : ∀ W, Below W0.heap.size W0 W → Calls Tryz.prog 42 #[.agg #[.slice ao ms.length cap, .int .i64 most, .int .i64 room]] W fun e w' => e = .returned (.int .i64 (usedL (pl ms))) ∧ Below W.heap.size W w' :=
      fun W hb => used_any _ ms most room W (rdm_keep HV.out (ret_tr hb0 hb)) (by omega)
    have HBy : ∀ W, Below W0.heap.size W0 W → Calls Tryz.prog 110 #[.agg #[.slice ao ms.length cap, .int .i64 most, .int .i64 room]] W fun e w' => e = .returned (.int .i64 (bytesL (pl ms))) ∧ Below W.heap.size W w' :=
      fun W hb => bytes_any _ ms most room W (rdm_keep HV.out (ret_tr hb0 hb)) HS.out
    have HSt : ∀ W, Calls Tryz.prog 111 #[nval n (.slice aon n.names.length capn)] W fun e w' => e = .returned (.int .i64 (weightL n)) ∧ Below W.heap.size W w' := fun W => stored_any n _ W
    obtain ⟨p0, p1, p2⟩ := cells3 hP
    obtain ⟨q0, q1, q2, q3, q4, q5, q6, q7⟩ := cells8 hQ
    have pp0 := cell_regrown p0
    have pp1 := cell_regrown p1
    have pp2 := cell_regrown p2
    have qq0 := cell_regrown q0
    have qq1 := cell_regrown q1
    have qq2 := cell_regrown q2
    have qq3 := cell_regrown q3
    have qq4 := cell_regrown q4
    have qq5 := cell_regrown q5
    have qq6 := cell_regrown q6
    have qq7 := cell_regrown q7
    generalize usedL (pl ms) = u at *
    generalize bytesL (pl ms) = y at *
    generalize hz : weightL n = z at *
    refine wp_region_quiet_below (by kernel_rfl) (by kernel_rfl) ?_
    repeat (go_big_quiet_step (first | (go_at_call 42; exact Calls.regrown_of (HU _ (below_regrown W0 _ _))) | (go_at_call 110; exact Calls.regrown_of (HBy _ (below_regrown W0 _ _))) | (go_at_call 111; exact Calls.regrown_of (HSt _))))
    refine wpQuiet_nil ?_
    clear pp0 pp1 pp2 qq0 qq1 qq2 qq3 qq4 qq5 qq6 qq7
    intro _ hw'
    obtain ⟨⟨dq, osq⟩, hw''⟩ := hw'
    have hbg : Below W0.heap.size W0 _ := below_regrown W0 dq osq
    rw [← hw''] at hbg
    clear hw''
    rename_i W2
    have hP2 := (hbg.block _ (by omega)).trans hP
    have hQ2 := (hbg.block _ (by omega)).trans hQ
    have hR2 := (hbg.block _ (by omega)).trans hR
    have hB2 := ret_tr hb0 hbg
    have hs2 := hbg.size
    clear p0 p1 p2 q0 q1 q2 q3 q4 q5 q6 q7 hd1 hd2 hwr HU HBy HSt
    obtain ⟨p0, p1, p2⟩ := cells3 hP2
    clear hP hQ hR
    go_wp2_with fail
    refine (index_any (.slice ao ms.length cap) ms W2 (rdm_keep HV.out hB2) (by omega)).mono ?_
    rintro e W3 ⟨rfl, hb3⟩
    have hP3 := (hb3.block _ (by omega)).trans hP2
    have hQ3 := (hb3.block _ (by omega)).trans hQ2
    have hR3 := (hb3.block _ (by omega)).trans hR2
    have hB3 := ret_tr hB2 hb3
    have hs3 := hb3.size
    clear p0 p1 p2 hP2 hQ2 hR2 hB2 hb3
    obtain ⟨p0, p1, p2⟩ := cells3 hP3
    have HI := Lib.hid (idx_cases (pl ms) 0)
    rcases HI.out with ⟨hx, -⟩ | ⟨j, hj, hx, -, -⟩
    · have hL : Hid (addL (pl ms) most room n = pl ms ++ [n]) := Lib.hid (by unfold addL; rw [HNo.out, hx]; rfl)
      have hJ : Hid (addI (pl ms) most room n = (ms.length : Int)) := Lib.hid (by unfold addI; rw [HNo.out, hx, pl_len]; rfl)
      have hE : Hid (addE (pl ms) most room n = 0) := Lib.hid (by unfold addE; rw [HNo.out]; rfl)
      rw [hx]
      clear hx HI
      have pf := fun j => Lib.frozen_of_heap hP3 j
      go_wp2_with fail
      refine fresh2 (P := fun W => Calls _ _ _ W _) ?_
      intro W4 hb4 hA hC hs4
      have hB4 := ret_tr hB3 hb4
      have hm4 := Lib.hid (rdm_keep HV.out hB4)
      have hz4 : RdM W4.heap.size (.slice (some ⟨W3.heap.size, 0, none⟩) 1 1) [(zeroN, .slice none 0 0)] W4 := rdm_one hA rfl (by omega)
      have hC2 : W4.cell? ⟨W3.heap.size + 1, 0, none⟩ = some (.slice ao ms.length cap) ∧ W4.cell? ⟨W3.heap.size + 1, 1, none⟩ = some (.slice (some ⟨W3.heap.size, 0, none⟩) 1 1) := by
        refine ⟨?_, ?_⟩ <;> (rw [Lib.cell_of_heap hC]; rfl)
      have hcon := concatN_any (W3.heap.size + 1) 0 2 [(.slice ao ms.length cap, ms), (.slice (some ⟨W3.heap.size, 0, none⟩) 1 1, [(zeroN, .slice none 0 0)])] W4 (by omega)
        (by
          intro k hk
          have hk2 : k = 0 ∨ k = 1 := by simp at hk; omega
          rcases hk2 with rfl | rfl
          · exact ⟨hC2.1, hm4.out⟩
          · exact ⟨hC2.2, hz4⟩)
        (by
          intro x hx
          simp only [List.mem_cons, List.not_mem_nil, or_false] at hx
          rcases hx with rfl | rfl
          · show ms.length ≤ 10001; omega
          · simp)
        (by simp)
      have hall : allM [((Value.slice ao ms.length cap, ms) : SrcN), (.slice (some ⟨W3.heap.size, 0, none⟩) 1 1, [(zeroN, .slice none 0 0)])] = ms ++ [(zeroN, .slice none 0 0)] := by simp [allM]
      rw [hall] at hcon
      refine hcon.mono ?_
      clear hcon hall hC2 hz4
      rintro e W5 ⟨v5, rfl, ho5, hb5⟩
      have hP5 := (hb5.block _ (by omega)).trans ((hb4.block _ (by omega)).trans hP3)
      have hQ5 := (hb5.block _ (by omega)).trans ((hb4.block _ (by omega)).trans hQ3)
      have hR5 := (hb5.block _ (by omega)).trans ((hb4.block _ (by omega)).trans hR3)
      have hB5 := ret_tr hB4 hb5
      have hs5 := hb5.size
      have hd5 : RdM W5.heap.size v5 (ms ++ [(zeroN, .slice none 0 0)]) W5 := ⟨Rd.own ho5 (Nat.le_refl _), fun m hm => by
        rcases List.mem_append.1 hm with hm | hm
        · exact (rdm_keep hm4.out hb5).2 m hm
        · obtain rfl := List.mem_singleton.1 hm
          exact Rd.none0 _ _ _⟩
      have hl5 : (ms ++ [((zeroN, .slice none 0 0) : NodeM)]).length = ms.length + 1 := by simp
      obtain ⟨ao5, cap5, rfl⟩ := own_form ho5
      rw [hl5] at ho5
      clear p0 p1 p2 pf hA hC hb4 hb5 hP3 hQ3 hR3 hB3 hB4 hm4
      obtain ⟨p0, p1, p2⟩ := cells3 hP5
      have pf := fun j => Lib.frozen_of_heap hP5 j
      rw [hl5] at hd5
      obtain ⟨c0, c1, c2, c3, c4, c5, c6, c7⟩ := cells8 hQ5
      go_wp2_with fail
      have hR6 := (Below.heap_setCell W5 ⟨w.heap.size, 0, none⟩ (.slice ao5 (ms.length + 1) cap5) (w.heap.size + 2) (by show w.heap.size + 2 ≠ w.heap.size; omega)).trans hR5
      have hB6 := hB5.setCell (p := ⟨w.heap.size, 0, none⟩) (Nat.le_refl _) (.slice ao5 (ms.length + 1) cap5)
      have hs6 : (W5.setCell ⟨w.heap.size, 0, none⟩ (.slice ao5 (ms.length + 1) cap5)).heap.size = W5.heap.size := by simp
      have hd6 : RdM (W5.setCell ⟨w.heap.size, 0, none⟩ (.slice ao5 (ms.length + 1) cap5)).heap.size (.slice ao5 (ms.length + 1) cap5) (ms ++ [(zeroN, .slice none 0 0)]) (W5.setCell ⟨w.heap.size, 0, none⟩ (.slice ao5 (ms.length + 1) cap5)) := by
        rw [hs6]
        refine rdm_other (g := w.heap.size) hd5 (own_far ho5 (by omega)) (fun x hx => ?_) fun k hk => Below.heap_setCell _ _ _ k hk
        rcases List.mem_append.1 hx with hx | hx
        · exact rd_far (HV.out.2 x hx) (Nat.le_refl _)
        · obtain rfl := List.mem_singleton.1 hx
          intro a n' c e _
          cases e
      clear p0 p1 p2 pf c0 c1 c2 c3 c4 c5 c6 c7
      generalize W5.setCell ⟨w.heap.size, 0, none⟩ (.slice ao5 (ms.length + 1) cap5) = W6 at *
      refine (set_any (.slice ao5 (ms.length + 1) cap5) (ms ++ [(zeroN, .slice none 0 0)]) most room ms.length n (.slice aon n.names.length capn) W6 hd6 (by rw [hl5]; omega) (rdnm_keep HN.out hB6) hnl).mono ?_
      intro e W7 hset7
      obtain ⟨v7, m7, rfl, hm7, hd7, hb7, hav⟩ := hset7
      have hR7 := (hb7.block _ (by omega)).trans hR6
      have hB7 := ret_tr hB6 hb7
      have hs7 := hb7.size
      obtain ⟨q0, q1, q2⟩ := cells3 hR7
      have rf := fun j => Lib.frozen_of_heap hR7 j
      obtain ⟨ao7, cap7, rfl, _, _⟩ := rdm_form hd7
      go_wp2_with fail
      refine sets3 (P := fun W => bodyPost _ _ _ _ _ W) hR7 ?_
      intro W8 hb8 hg8 hs8 hR8
      refine bodyPost_ret (hret _ _ _ hR8 rfl _ rfl) rfl ?_
      have hset : setL (pl (ms ++ [((zeroN, .slice none 0 0) : NodeM)])) (ms.length : Int) n = pl ms ++ [n] := by
        have e1 : pl (ms ++ [((zeroN, .slice none 0 0) : NodeM)]) = pl ms ++ [zeroN] := by simp [pl]
        unfold setL
        rw [e1, nat_in (by simp [pl_len]), if_pos rfl, Int.toNat_natCast, ← pl_len ms, List.set_append_right _ _ (Nat.le_refl _), Nat.sub_self]
        rfl
      have hav2 := hav (w.heap.size + 2) (by omega) ⟨own_far ho5 (by omega), fun x hx => by
        rcases List.mem_append.1 hx with hx | hx
        · exact rd_far (HV.out.2 x hx) (by omega)
        · obtain rfl := List.mem_singleton.1 hx
          intro a n' c e _
          cases e⟩
      refine ⟨_, m7, by rw [hJ.out, hE.out]; rfl, (hm7.trans hset).trans hL.out.symm, ?_, hB7.trans (hb8.mono (by omega)), fun q hq hq2 => hav q (by omega) ⟨own_far ho5 (by omega), fun x hx => ?_⟩⟩
      · rw [hs8]
        exact rdm_other hd7 hav2.1 hav2.2 hg8
      · rcases List.mem_append.1 hx with hx | hx
        · exact hq2.2 x hx
        · obtain rfl := List.mem_singleton.1 hx
          intro a n' c e _
          cases e
    · rw [Nat.zero_add] at hx
      have hL : Hid (addL (pl ms) most room n = setL (pl ms) (j : Int) n) := Lib.hid (by unfold addL setL; rw [HNo.out, hx, nat_in hj, if_neg (by simp), if_neg (by omega), if_pos rfl])
      have hJ : Hid (addI (pl ms) most room n = (j : Int)) := Lib.hid (by unfold addI; rw [HNo.out, hx, if_neg (by simp), if_neg (by omega)])
      have hE : Hid (addE (pl ms) most room n = 0) := Lib.hid (by unfold addE; rw [HNo.out]; rfl)
      rw [hx]
      clear hx hj HI
      have hneg : decide ((j : Int) < 0) = false := by simp
      obtain ⟨c0, c1, c2, c3, c4, c5, c6, c7⟩ := cells8 hQ3
      go_wp2_with fail
      refine (set_any (.slice ao ms.length cap) ms most room j n (.slice aon n.names.length capn) W3 (rdm_keep HV.out hB3) (by omega) (rdnm_keep HN.out hB3) hnl).mono ?_
      intro e W7 hset7
      obtain ⟨v7, m7, rfl, hm7, hd7, hb7, hav⟩ := hset7
      have hR7 := (hb7.block _ (by omega)).trans hR3
      have hB7 := ret_tr hB3 hb7
      have hs7 := hb7.size
      obtain ⟨q0, q1, q2⟩ := cells3 hR7
      have rf := fun j => Lib.frozen_of_heap hR7 j
      clear p0 p1 p2 c0 c1 c2 c3 c4 c5 c6 c7
      obtain ⟨ao7, cap7, rfl, _, _⟩ := rdm_form hd7
      go_wp2_with fail
      refine sets3 (P := fun W => bodyPost _ _ _ _ _ W) hR7 ?_
      intro W8 hb8 hg8 hs8 hR8
      refine bodyPost_ret (hret _ _ _ hR8 rfl _ rfl) rfl ?_
      have hav2 := hav (w.heap.size + 2) (by omega) ⟨rd_far HV.out.1 (by omega), fun x hx => rd_far (HV.out.2 x hx) (by omega)⟩
      refine ⟨_, m7, by rw [hJ.out, hE.out]; rfl, hm7.trans hL.out.symm, ?_, hB7.trans (hb8.mono (by omega)), fun q hq hq2 => hav q (by omega) hq2⟩
      rw [hs8]
      exact rdm_other hd7 hav2.1 hav2.2 hg8
end Go.Proofs.YtpmhmippoefcfaaGreatDoor
namespace Go.Proofs.YtpmhmippoefcfaaGreatDoor
open Go.RowKit Go.Shelf
/-- A disk that may be changed. -/
structure Dsk (l : List NodeL) : Prop where
  w : ∀ ms, pl ms = l → DskW ms
  sm : Small l
theorem Dsk.len {l : List NodeL} (h : Dsk l) : l.length ≤ 10000 := Nat.le_trans h.sm.1 (by decide)
theorem Dsk.nm {l : List NodeL} (h : Dsk l) (i : Int) : (nodeL l i).names.length ≤ 130 := by
  unfold nodeL
  split
  · unfold atI
    rcases Nat.lt_or_ge i.toNat l.length with h1 | h1
    · rw [List.getD_eq_getElem?_getD, List.getElem?_eq_getElem h1]; exact (h.sm.2 _ (List.getElem_mem _)).2
    · rw [List.getD_eq_getElem?_getD, List.getElem?_eq_none h1]; exact Nat.zero_le _
  · exact Nat.zero_le _
theorem Dsk.rig {l : List NodeL} (h : Dsk l) : RightP l := by
  have hp : pl (l.map fun n => (n, Value.nilIface)) = l := by simp [pl, List.map_map, Function.comp_def]
  have := (h.w _ hp).ok.right
  rwa [hp] at this
theorem cnt_small {l : List NodeL} (h : Small l) (j : Int) : cnt l j ≤ 14300 := by
  have main : ∀ l : List NodeL, (∀ n ∈ l, n.names.length ≤ 130) → (l.map fun n => cntN n.names j).sum ≤ l.length * 130 := by
    intro l
    induction l with
    | nil => intro _; exact Nat.le_refl _
    | cons n l ih =>
      intro hl
      have h1 := ih fun m hm => hl m (List.mem_cons_of_mem _ hm)
      have h2 := hl n List.mem_cons_self
      have h3 : cntN n.names j ≤ n.names.length := List.countP_le_length
      simp only [List.map_cons, List.sum_cons, List.length_cons]
      omega
  have h1 := main l fun n hn => (h.2 n hn).2
  have h2 := h.1
  unfold cnt
  omega
theorem nodeL_no {l : List NodeL} {i : Int} (h : gotB l i = false) : nodeL l i = zeroN := by unfold nodeL; rw [h]; rfl
theorem links_small {l : List NodeL} (h : Dsk l) (i : Int) : 0 ≤ (nodeL l i).links ∧ (nodeL l i).links ≤ 14300 := by
  cases hg : gotB l i with
  | false => rw [nodeL_no hg]; exact ⟨Int.le_refl 0, by decide⟩
  | true =>
    obtain ⟨k, rfl, hlt, hk⟩ := got_nat hg
    rw [nodeL_nd hk]
    obtain ⟨hR, _⟩ := Rig.of h.rig
    by_cases h0 : k = 0
    · subst h0; rw [hR.root.2.2]; exact ⟨by decide, by decide⟩
    · rw [(hR.nmd k h0 id hk).1]
      have := cnt_small h.sm k
      omega
theorem drop_links (l : List NodeL) (s : SpotL) (i : Int) : (nodeL (droppedL l s) i).links = (nodeL l i).links := by
  unfold droppedL setL
  split
  · rename_i h
    obtain ⟨k, hk, hlt⟩ := in_nat h
    rw [hk, Int.toNat_natCast]
    rcases (show i < 0 ∨ 0 ≤ i by omega) with h2 | h2
    · have hn : ∀ l : List NodeL, gotB l i = false := fun l => by unfold gotB inL; rw [decide_eq_false (by omega)]; rfl
      rw [nodeL_no (hn _), nodeL_no (hn _)]
    · obtain ⟨j, rfl⟩ := Int.eq_ofNat_of_zero_le h2
      by_cases hj : j = k
      · subst hj
        by_cases hg : (nd l j).kind = 0
        · have h3 : gotB l j = false := by cases h4 : gotB l j with | false => rfl | true => exact absurd hg ((got_nd l j).1 h4)
          rw [nodeL_no h3]
          refine congrArg NodeL.links (nodeL_no ?_)
          cases h4 : gotB (l.set j (dropN zeroN s.name)) j with
          | false => rfl
          | true =>
            have := (got_nd _ j).1 h4
            rw [nd_set hlt, if_pos rfl] at this
            exact absurd rfl this
        · have e1 := nodeL_nd hg
          rw [e1]
          rw [nodeL_nd (by rw [nd_set hlt, if_pos rfl]; exact hg), nd_set hlt, if_pos rfl]
          rfl
      · have e1 : nd (l.set k (dropN (nodeL l k) s.name)) j = nd l j := by rw [nd_set hlt, if_neg hj]
        cases h4 : gotB l j with
        | true =>
          have h5 := (got_nd l j).1 h4
          rw [nodeL_nd h5, nodeL_nd (by rw [e1]; exact h5), e1]
        | false =>
          have h5 : gotB (l.set k (dropN (nodeL l k) s.name)) j = false := by
            cases h6 : gotB (l.set k (dropN (nodeL l k) s.name)) j with
            | false => rfl
            | true =>
              have := (got_nd _ j).1 h6
              rw [e1] at this
              rw [(got_nd l j).2 this] at h4
              cases h4
          rw [nodeL_no h4, nodeL_no h5]
  · rfl
theorem Dsk.wrap {l : List NodeL} (h : Dsk l) (s : SpotL) : IntKind.i64.wrap ((nodeL (droppedL l s) s.ino).links - 1) = (nodeL (droppedL l s) s.ino).links - 1 := by
  rw [drop_links]
  have := links_small h s.ino
  exact Go.IntWalk.i64_in _ (by omega)
abbrev asV (who fr : Int) : Value := .agg #[.int .i64 who, .int .i64 fr]
/-- What a change tells: the disk, and an error. -/
def ChgIs (X : Nat → Prop) (R : ChgL) (most room : Int) (e : Ending) (w w' : World) : Prop :=
  ∃ ao cap, e = .returned (.tuple #[.agg #[.slice ao R.1.length cap, .int .i64 most, .int .i64 room], .int .i64 R.2]) ∧ GivesX X R.1 (.slice ao R.1.length cap) w' ∧ Below w.heap.size w w'
/-- .. a number, too. -/
def MakIs (X : Nat → Prop) (R : MakL) (most room : Int) (e : Ending) (w w' : World) : Prop :=
  ∃ ao cap, e = .returned (.tuple #[.agg #[.slice ao R.1.length cap, .int .i64 most, .int .i64 room], .int .i64 R.2.1, .int .i64 R.2.2]) ∧ GivesX X R.1 (.slice ao R.1.length cap) w' ∧ Below w.heap.size w w'
theorem xwalk_g (X : Nat → Prop) (l : List NodeL) (hd : Dsk l) (a b who fr : Int) (path : Str) (follow : Bool) (hpl : path.length ≤ 10000) (v : Value) (W : World) (hg : GivesX X l v W) (he : W.cell? ⟨10, 0, none⟩ = some errTypeV) :
    Calls Tryz.prog 81 #[.agg #[v, .int .i64 a, .int .i64 b], .int .i64 who, .int .i64 fr, .string (bs path), .bool follow] W fun e w' => WalkIs (walkL l who fr path follow) e W w' := by
  obtain ⟨m, rfl, h⟩ := hg.gives
  exact walk_any v m a b who fr path follow W h (hd.w m rfl) hpl he
theorem xnode_g (X : Nat → Prop) (l : List NodeL) (hd : Dsk l) (a b who fr : Int) (path : Str) (follow : Bool) (hpl : path.length ≤ 10000) (v : Value) (W : World) (hg : GivesX X l v W) (he : W.cell? ⟨10, 0, none⟩ = some errTypeV) :
    Calls Tryz.prog 41 #[.agg #[v, .int .i64 a, .int .i64 b], .int .i64 who, .int .i64 fr, .string (bs path), .bool follow] W fun e w' => WNodeIs (walkL l who fr path follow) e W w' := by
  obtain ⟨m, rfl, h⟩ := hg.gives
  exact wnode_any v m a b who fr path follow W h (hd.w m rfl) hpl he
theorem GivesX.none {X : Nat → Prop} {l : List NodeL} {v : Value} {W : World} (h : GivesX X l v W) : GivesX (fun _ => False) l v W := h.sub fun _ h => h.elim
/-- What Add tells. -/
def AddX (X : Nat → Prop) (l : List NodeL) (most room : Int) (n : NodeL) (e : Ending) (w w' : World) : Prop :=
  ∃ ao cap, e = .returned (.tuple #[.agg #[.slice ao (addL l most room n).length cap, .int .i64 most, .int .i64 room], .int .i64 (addI l most room n), .int .i64 (addE l most room n)]) ∧ GivesX X (addL l most room n) (.slice ao (addL l most room n).length cap) w' ∧ Below w.heap.size w w'
theorem add_g (X : Nat → Prop) (l : List NodeL) (most room : Int) (n : NodeL) (v vn : Value) (W : World) (hX : Old X W) (hg : GivesX X l v W) (hs : Small l) (hn : NodeX X n vn W) (hns : SmallN n) :
    Calls Tryz.prog 84 #[.agg #[v, .int .i64 most, .int .i64 room], nval n vn] W fun e w' => AddX X l most room n e W w' := by
  obtain ⟨m, rfl, h, ha⟩ := hg
  refine (add_anyM v m most room n vn W h hs hn.1 hns).mono ?_
  rintro e w' ⟨v', ms', rfl, hp, hr, hb, hav⟩
  have hG : GivesX X (addL (pl m) most room n) v' w' := ⟨ms', hp, hr, fun g hx => hav g (hX g hx) (ha g hx)⟩
  obtain ⟨ao, cap, rfl⟩ := gives_form hG
  exact ⟨ao, cap, rfl, hG, hb⟩
theorem set_g (X : Nat → Prop) (l : List NodeL) (most room i : Int) (n : NodeL) (v vn : Value) (W : World) (hX : Old X W) (hg : GivesX X l v W) (hl : l.length ≤ 10000) (hn : NodeX X n vn W) (hnl : n.names.length ≤ 10000) :
    Calls Tryz.prog 49 #[.agg #[v, .int .i64 most, .int .i64 room], .int .i64 i, nval n vn] W fun e w' => RDiskIs X (setL l i n) most room e W w' := by
  obtain ⟨m, rfl, h, ha⟩ := hg
  refine (set_any v m most room i n vn W h (by rw [← pl_len]; exact hl) hn.1 hnl).mono ?_
  rintro e w' ⟨v', ms', rfl, hp, hr, hb, hav⟩
  have hG : GivesX X (setL (pl m) i n) v' w' := ⟨ms', hp, hr, fun g hx => hav g (hX g hx) (ha g hx)⟩
  obtain ⟨ao, cap, rfl⟩ := gives_form hG
  exact ⟨ao, cap, rfl, hG, hb⟩
/-- What the program's Get tells: a node with names of its own. -/
theorem get_g (X : Nat → Prop) (l : List NodeL) (most room i : Int) (v : Value) (W : World) (hX : Old X W) (hg : GivesX X l v W) (hl : l.length ≤ 10000) (hnl : ∀ n ∈ l, n.names.length ≤ 10000) :
    Calls Tryz.prog 35 #[.agg #[v, .int .i64 most, .int .i64 room], .int .i64 i] W fun e w' => ∃ ao cap, e = .returned (.tuple #[nval (nodeL l i) (.slice ao (nodeL l i).names.length cap), .bool (gotB l i)]) ∧ NodeX X (nodeL l i) (.slice ao (nodeL l i).names.length cap) w' ∧ Below W.heap.size W w' := by
  obtain ⟨m, rfl, h, ha⟩ := hg
  refine (get_new v m most room i W h (by rw [← pl_len]; exact hl) hnl).mono ?_
  rintro e w' ⟨v1, rfl, hr, hb, hnew⟩
  have hgl : getL (pl m) i = nodeL (pl m) i := by unfold getL nodeL; cases gotB (pl m) i <;> rfl
  rw [hgl] at hr ⊢
  have hN : NodeX X (nodeL (pl m) i) v1 w' := ⟨hr, fun g hx => by
    rintro a n c rfl _ e
    have h1 : W.heap.size ≤ a.block := hnew a.block rfl
    have h2 := hX g hx
    omega⟩
  obtain ⟨ao, cap, rfl⟩ := node_form hN
  exact ⟨ao, cap, rfl, hN, hb⟩
end Go.Proofs.YtpmhmippoefcfaaGreatDoor
namespace Go.Proofs.YtpmhmippoefcfaaGreatDoor
open Go.RowKit Go.Shelf
theorem cells2 {W : World} {b : Nat} {u0 u1 : Value} {t : TypeId} {f : Nat × Nat} (h : W.heap[b]? = some (.cells #[u0, u1] t f)) : W.cell? ⟨b, 0, none⟩ = some u0 ∧ W.cell? ⟨b, 1, none⟩ = some u1 := by
  refine ⟨?_, ?_⟩ <;> (rw [Lib.cell_of_heap h]; rfl)
theorem wpList_fresh1 {P : Program} {ops : Array Oper} {Q : Exit → Act → World → Prop} {l : List Oper} {a : Act} {w : World} {A : Obj}
    (h : ∀ W, Below w.heap.size w W → W.heap[w.heap.size]? = some A → W.heap.size = w.heap.size + 1 → wpList P ops Q l a W) : wpList P ops Q l a (w.alloc A) := fresh1 (P := fun W => wpList P ops Q l a W) h
theorem there_block {w : World} {b : Nat} {old : Array Value} {t : TypeId} (hb : w.heap[b]? = some (.cells old t (0, 0))) : w.there b 0 old.size := fun j hj => by
  refine ⟨?_, Lib.frozen_of_heap hb _⟩
  rw [Lib.cell_of_heap hb, Nat.zero_add, Array.getElem?_eq_getElem hj]
  rfl
theorem heap_setCells_same {b : Nat} {t : TypeId} : ∀ (vs : List Value) (o : Nat) (w : World) (cs : Array Value), w.heap[b]? = some (.cells cs t (0, 0)) → ∃ cs', (w.setCells b o vs).heap[b]? = some (.cells cs' t (0, 0)) ∧ cs'.size = cs.size
  | [], _, _, cs, h => ⟨cs, h, rfl⟩
  | v :: r, o, w, cs, h => by
    obtain ⟨cs', h1, h2⟩ := heap_setCells_same r (o + 1) (w.setCell ⟨b, o, none⟩ v) _ (heap_set h)
    exact ⟨cs', h1, by rw [h2, Array.size_setIfInBounds]⟩
theorem heap_setCells_all {w : World} {b : Nat} {old : Array Value} {t : TypeId} (vs : List Value) (hb : w.heap[b]? = some (.cells old t (0, 0))) (hs : old.size = vs.length) : (w.setCells b 0 vs).heap[b]? = some (.cells vs.toArray t (0, 0)) := by
  obtain ⟨cs', h1, h2⟩ := heap_setCells_same (t := t) vs 0 w old hb
  rw [h1]
  have hr := World.rangeAt_setCells_same w b 0 vs (by rw [← hs]; exact there_block hb)
  have : cs' = vs.toArray := by
    apply Array.ext_getElem?
    intro j
    rcases Nat.lt_or_ge j vs.length with hj | hj
    · have h3 := hr j vs[j] (List.getElem?_eq_getElem hj)
      rw [Lib.cell_of_heap h1, Nat.zero_add] at h3
      rw [h3]
      simp [hj]
    · rw [Array.getElem?_eq_none (by omega), Array.getElem?_eq_none (by simpa using hj)]
  rw [this]
/-- A block, written all over, in a plain region. -/
theorem wpList_store_row {P : Program} {ops : Array Oper} {rest : List Oper} {op : Oper} {a : Act} {w : World} {Q : Exit → Act → World → Prop} (hgd : op.guard = none) (ty : TypeId) (x y : Operand) (ho : op.op = .store ty x y)
    (b : Nat) {cells old : List Value} {t : TypeId} (hx : a.eval x = .pointer (some ⟨b, 0, none⟩)) (hy : a.eval y = .agg cells.toArray) (hb : w.heap[b]? = some (.cells old.toArray t (0, 0))) (hs : old.length = cells.length)
    (hi : (P.info? ty).map (·.size) = some cells.length) (h1 : cells.all (·.oneCell') = true)
    (h : ∀ W', Below b w W' → (∀ g, g ≠ b → W'.heap[g]? = w.heap[g]?) → W'.heap.size = w.heap.size → W'.heap[b]? = some (.cells cells.toArray t (0, 0)) → wpList P ops Q rest (a.put op.dst undef) W') : wpList P ops Q (op :: rest) a w := by
  refine wpList_store_mid hgd ty x y ho b 0 cells.toArray hx hy ?_ (by simpa using hi) ?_ ?_
  · have := there_block hb
    rw [List.size_toArray] at this ⊢
    rwa [← hs]
  · exact all_oneCell_toArray fun v hv => List.all_eq_true.1 h1 v hv
  · exact h _ (below_setCells _ _ (Nat.le_refl _) _ _ _) (fun g hg => heap_setCells _ _ hg _ _ _) (size_setCells _ _ _ _) (heap_setCells_all _ hb (by rw [List.size_toArray]; exact hs))
/-- The same of one operation, in a region that draws. -/
theorem wp_store_row {P : Program} {op : Oper} {a : Act} {w : World} {K : Act → World → Prop} {Q : Exit → Act → World → Prop} (ty : TypeId) (x y : Operand) (ho : op.op = .store ty x y)
    (b : Nat) {cells old : List Value} {t : TypeId} (hx : a.eval x = .pointer (some ⟨b, 0, none⟩)) (hy : a.eval y = .agg cells.toArray) (hb : w.heap[b]? = some (.cells old.toArray t (0, 0))) (hs : old.length = cells.length)
    (hi : (P.info? ty).map (·.size) = some cells.length) (h1 : cells.all (·.oneCell') = true)
    (h : ∀ W', Below b w W' → (∀ g, g ≠ b → W'.heap[g]? = w.heap[g]?) → W'.heap.size = w.heap.size → W'.heap[b]? = some (.cells cells.toArray t (0, 0)) → K (a.put op.dst undef) W') : op.wp P a w K Q := by
  refine wp_store_mid ty x y ho b 0 cells.toArray hx hy ?_ (by simpa using hi) ?_ ?_
  · have := there_block hb
    rw [List.size_toArray] at this ⊢
    rwa [← hs]
  · exact all_oneCell_toArray fun v hv => List.all_eq_true.1 h1 v hv
  · exact h _ (below_setCells _ _ (Nat.le_refl _) _ _ _) (fun g hg => heap_setCells _ _ hg _ _ _) (size_setCells _ _ _ _) (heap_setCells_all _ hb (by rw [List.size_toArray]; exact hs))
/-- A whole block, read, under an S that gives it: it may be taken first. -/
theorem yieldsIf_load_row {P : Program} {ops : Array Oper} {S : World → Prop} {op : Oper} {a : Act} (hw : Region.wanted op (yielded ops a.tmps) = true) (ty : TypeId) (x : Operand) (ho : op.op = .load ty x)
    (b : Nat) (hx : a.eval x = .pointer (some ⟨b, 0, none⟩)) (t : TypeId) (cs : Array Value) (fr : Nat × Nat) (d : TypeDesc) (hS : ∀ w, S w → w.heap[b]? = some (.cells cs t fr))
    (hu : P.underlying ty = some d) (hd : (match d with | .struct _ | .array _ _ => true | _ => false) = true) (hi : (P.info? ty).map (·.size) = some cs.size) : YieldsIf P ops S op (.agg cs) a :=
  .inl ⟨hw, fun w hw' => by
    unfold execOp
    simp only [ho, hx, Instr.loadAt, Instr.sureAddr, Sem.run_bind, Sem.run_pure, Result.andThen_ok, run_loadVar_row w b t ty cs fr d (hS w hw') hu hd hi]⟩
/-- Two structs and a slot as results. -/
theorem results_cct {P : Program} {fn : Func} {p q u : Tmp} {ty ty2 : TypeId} (h : fn.results = #[.cell p ty, .cell q ty2, .tmp u]) (tmps : Array Value) (w : World) (g g2 : Nat) (t t2 : TypeId) (cs cs2 : Array Value) (fr fr2 : Nat × Nat) (d d2 : TypeDesc)
    (hp : tmps.getD p undef = .pointer (some ⟨g, 0, none⟩)) (hg : w.heap[g]? = some (.cells cs t fr)) (hq : tmps.getD q undef = .pointer (some ⟨g2, 0, none⟩)) (hg2 : w.heap[g2]? = some (.cells cs2 t2 fr2))
    (hu : P.underlying ty = some d) (hd : (match d with | .struct _ | .array _ _ => true | _ => false) = true) (hi : (P.info? ty).map (·.size) = some cs.size)
    (hu2 : P.underlying ty2 = some d2) (hd2 : (match d2 with | .struct _ | .array _ _ => true | _ => false) = true) (hi2 : (P.info? ty2).map (·.size) = some cs2.size) :
    (results fn tmps).run P w = .ok (.tuple #[.agg cs, .agg cs2, tmps.getD u undef]) w := by
  have hp' : tmps[p]?.getD undef = .pointer (some ⟨g, 0, none⟩) := by simpa using hp
  have hq' : tmps[q]?.getD undef = .pointer (some ⟨g2, 0, none⟩) := by simpa using hq
  simp [results, h, hp', hq', asAddr, run_loadVar_row w g t ty cs fr d hg hu hd hi, run_loadVar_row w g2 t2 ty2 cs2 fr2 d2 hg2 hu2 hd2 hi2, Result.andThen]
end Go.Proofs.YtpmhmippoefcfaaGreatDoor
