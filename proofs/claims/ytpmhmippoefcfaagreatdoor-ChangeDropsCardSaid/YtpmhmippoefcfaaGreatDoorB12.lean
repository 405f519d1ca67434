/-
  The document's Right. What the statements on ways have in common: whether a disk is right; spots are compared; the example. The laws on ways, plainly. The laws on spots, on slashes, and on paths that are joined, plainly. What is done to a disk, plainly; what is right, by what names what. The document's Right, by what names what; and what keeps a disk right. Names that come and go, plainly: the document's words on lists of nodes. The document's Set, Settle. The document's Put and Drop of entries: what they give lies in new memory. The document's writes, free, named. The document's lost. A call's state: blocks of its own, the disks and the nodes that it reads. What a spot is on a disk that is right, by numbers; its name is one that may be. A disk that is right stays so: what is entered, linked, lost, and whose mode is changed. A disk that is right stays so: what is lost, linked, and whose mode is changed. A disk that is right stays so: what is renamed. A disk that is right stays so, whatever is done to it; and how large it becomes.
-/
import Derived.RangeFuncNested
import Derived.RangeFuncBound
import Derived.RangeFuncCalls
import Derived.RangeFuncLeaves
import Derived.RangeFuncBox
import Derived.Shelf.Abstract
import Derived.Shelf.RegionOpen
import Derived.WalkKit
import Derived.OwnWalkIn
import Derived.TacticsInMore
import Derived.LoopNIn
import Derived.LoopIn
import Derived.Lib.Hide
import Derived.Outline
import Derived.Deep.QuietTactic
import Derived.Deep.AppendLies
import Derived.BigQuiet
import Derived.Lib.Strings
import Derived.WalkSmall
import Derived.Shelf.Small.Strs
import Derived.Shelf.Strings.Search1
import Derived.Shelf.Strings.Prefix
import Derived.Laws.AppendOwn
import Derived.Laws.OwnMore
import Derived.Laws.AppendOwnNone
import Derived.WideShapes
import Derived.Laws.RangeAny
import Derived.Laws.Runes
import Derived.Lib.Builder
import Derived.Deep.WholeRow
import Derived.WalkMore
import Derived.Lib.OthersKept
import Derived.Lib.QuietBelow
import Derived.Deep.DrawnRows
import Derived.Laws.Cover1
import Derived.Shelf.SlSorted.Search
import Derived.Shelf.Spec.SlicesGrow
import Derived.StillTailTactics
import Derived.Deep.RegionHeld3
import Derived.Deep.RegionLaw
import Derived.Handy
import Derived.Laws.IdiomCopy
import Derived.Lib.SliceRun
import Derived.Laws.ResultCell
import Derived.Lib.TrimByte
import Derived.Lib.Bytealg
import Derived.Laws.BitsLemmas
import Derived.LaidEql
import Derived.Stop.Asserts
import Derived.RowKitTokens
import Derived.Deep.LoopGhost
import Derived.Deep.DeepCutAuto
import Derived.Test.YtpmhmippoefcfaaGreatDoorProg
import Derived.Test.YtpmhmippoefcfaaGreatDoorShelf
import Derived.Test.YtpmhmippoefcfaaGreatDoorB01
import Derived.Test.YtpmhmippoefcfaaGreatDoorB02
import Derived.Test.YtpmhmippoefcfaaGreatDoorB04
import Derived.Test.YtpmhmippoefcfaaGreatDoorB05
import Derived.Test.YtpmhmippoefcfaaGreatDoorB06
import Derived.Test.YtpmhmippoefcfaaGreatDoorB07
import Derived.Test.YtpmhmippoefcfaaGreatDoorB08
import Derived.Test.YtpmhmippoefcfaaGreatDoorB09
import Derived.Test.YtpmhmippoefcfaaGreatDoorB10
import Derived.Test.YtpmhmippoefcfaaGreatDoorB11
namespace Go.Proofs.YtpmhmippoefcfaaGreatDoor
open Go.RowKit Go.Shelf
attribute [local go_sem ↓] Go.wp_at_zero Go.wp_at_succ
/-- Are the first k right? -/
def OkTo (p : Nat → Bool) (k : Nat) : Prop := ∀ i, i < k → p i = true
theorem okTo_succ {p : Nat → Bool} {k : Nat} (h : OkTo p k) (hk : p k = true) : OkTo p (k + 1) := fun i hi => by
  rcases Nat.lt_or_ge i k with h1 | h1
  · exact h i h1
  · obtain rfl : i = k := by omega
    exact hk
theorem okTo_all {p : Nat → Bool} {k : Nat} (h : OkTo p k) : (List.range k).all p = true := (range_all p k).2 h
theorem okTo_bad {p : Nat → Bool} {k n : Nat} (hk : k < n) (h : p k = false) : (List.range n).all p = false := by
  rw [Bool.eq_false_iff]
  intro hc
  have := (range_all p n).1 hc k hk
  rw [h] at this
  cases this
def headR (l : List NodeL) (most room : Int) : Bool := !decide (l.length = 0) && !decide (most < l.length) && !decide (room < bytesL l) && decide ((atI l 0).kind = 2)
theorem rightR_eq (l : List NodeL) (most room : Int) : rightR l most room = (headR l most room && (List.range l.length).all fun i => okR l i (atI l i)) := rfl
set_option maxRecDepth 100000 in
set_option maxHeartbeats 8000000 in
theorem rright_any (v : Value) (ms : List NodeM) (most room : Int) (w : World) (hv : RdM w.heap.size v ms w) (hsm : Small (pl ms)) (hfit : FitD (pl ms)) :
    Calls Tryz.prog 32 #[.agg #[v, .int .i64 most, .int .i64 room]] w fun e w' => e = .returned (.bool (rightR (pl ms) most room)) ∧ Below w.heap.size w w' := by
  have hl : ms.length ≤ 110 := by have := hsm.1; rwa [pl_len] at this
  have hbl : bytesL (pl ms) ≤ 33000 := by have := bytes_take_le hsm (pl ms).length; rwa [List.take_length] at this
  obtain ⟨ao, cap, rfl, _, _⟩ := rdm_form hv
  have HV := Lib.hid hv
  have HS := Lib.hid hsm
  have HF := Lib.hid hfit
  clear hv hsm hfit
  by_cases h0 : ms.length = 0
  · have hI : ((ms.length : Int) == 0) = true := by rw [beq_iff_eq]; omega
    have HE : Hid (rightR (pl ms) most room = false) := Lib.hid (by rw [rightR_eq]; unfold headR; rw [pl_len, h0]; rfl)
    clear h0
    go_enter Tryz.func32, Tryz.ntmps32
    go_wp2_with fail
    refine fresh1 (P := fun W => Code.wp _ _ _ _ W) ?_
    intro W0 hb0 hP hs0
    obtain ⟨p0, p1, p2⟩ := cells3 hP
    have pp0 := cell_regrown p0
    have pp1 := cell_regrown p1
    have pp2 := cell_regrown p2
    refine wp_region_quiet_below (by kernel_rfl) (by kernel_rfl) ?_
    repeat (go_big_quiet_step (fail))
    refine wpQuiet_nil ?_
    clear pp0 pp1 pp2
    intro _ hw'
    obtain ⟨⟨dq, osq⟩, hw''⟩ := hw'
    have hbg : Below W0.heap.size W0 _ := below_regrown W0 dq osq
    rw [← hw''] at hbg
    clear hw''
    rename_i W2
    have hB2 := ret_tr hb0 hbg
    go_wp2_with fail
    go_ret
    exact ⟨ret_bool HE.out.symm, hB2⟩
  have hI0 : ((ms.length : Int) == 0) = false := by rw [beq_eq_false_iff_ne]; omega
  by_cases h1 : most < (ms.length : Int)
  · have hI : decide (most < (ms.length : Int)) = true := by simpa using h1
    have HE : Hid (rightR (pl ms) most room = false) := Lib.hid (by rw [rightR_eq]; unfold headR; rw [pl_len]; simp [h1])
    clear h0 h1
    go_enter Tryz.func32, Tryz.ntmps32
    go_wp2_with fail
    refine fresh1 (P := fun W => Code.wp _ _ _ _ W) ?_
    intro W0 hb0 hP hs0
    obtain ⟨p0, p1, p2⟩ := cells3 hP
    have pp0 := cell_regrown p0
    have pp1 := cell_regrown p1
    have pp2 := cell_regrown p2
    refine wp_region_quiet_below (by kernel_rfl) (by kernel_rfl) ?_
    repeat (go_big_quiet_step (fail))
    refine wpQuiet_nil ?_
    clear pp0 pp1 pp2
    intro _ hw'
    obtain ⟨⟨dq, osq⟩, hw''⟩ := hw'
    have hbg : Below W0.heap.size W0 _ := below_regrown W0 dq osq
    rw [← hw''] at hbg
    clear hw''
    rename_i W2
    have hB2 := ret_tr hb0 hbg
    go_wp2_with fail
    go_ret
    exact ⟨ret_bool HE.out.symm, hB2⟩
  have hI1 : decide (most < (ms.length : Int)) = false := by simpa using h1
  by_cases h2 : room < (bytesL (pl ms) : Int)
  · have hI : decide (room < (bytesL (pl ms) : Int)) = true := by simpa using h2
    have HE : Hid (rightR (pl ms) most room = false) := Lib.hid (by rw [rightR_eq]; unfold headR; simp [h2])
    clear h0 h1 h2
    go_enter Tryz.func32, Tryz.ntmps32
    go_wp2_with fail
    refine fresh1 (P := fun W => Code.wp _ _ _ _ W) ?_
    intro W0 hb0 hP hs0
    obtain ⟨p0, p1, p2⟩ := cells3 hP
    have pp0 := cell_regrown p0
    have pp1 := cell_regrown p1
    have pp2 := cell_regrown p2
    have HBy : ∀ W, Below W0.heap.size W0 W → Calls Tryz.prog 70 #[.agg #[.slice ao ms.length cap, .int .i64 most, .int .i64 room]] W fun e w' => e = .returned (.int .i64 (bytesL (pl ms))) ∧ Below W.heap.size W w' :=
      fun W hb => rbytes_any _ ms most room W (rdm_keep HV.out (ret_tr hb0 hb)) HS.out
    generalize hby : bytesL (pl ms) = y at *
    refine wp_region_quiet_below (by kernel_rfl) (by kernel_rfl) ?_
    repeat (go_big_quiet_step ((go_at_call 70; exact Calls.regrown_of (HBy _ (below_regrown W0 _ _)))))
    refine wpQuiet_nil ?_
    clear pp0 pp1 pp2
    intro _ hw'
    obtain ⟨⟨dq, osq⟩, hw''⟩ := hw'
    have hbg : Below W0.heap.size W0 _ := below_regrown W0 dq osq
    rw [← hw''] at hbg
    clear hw''
    rename_i W2
    have hB2 := ret_tr hb0 hbg
    go_wp2_with fail
    go_ret
    exact ⟨ret_bool HE.out.symm, hB2⟩
  have hI2 : decide (room < (bytesL (pl ms) : Int)) = false := by simpa using h2
  obtain ⟨b, off, n, aon, capn, rfl, hb, hn, -, -, c0, -⟩ := node_at HV.out 0 (by omega)
  rw [Nat.zero_mul, Nat.add_zero] at c0
  have hat : atI (pl ms) 0 = n := by
    rw [← hn]
    exact at_nat (pl ms) 0 (by rw [pl_len]; omega)
  have h00 : (0 : Int) < (ms.length : Int) := by omega
  by_cases h3 : n.kind = 2
  · have hI3 : (n.kind != 2) = false := by simpa using h3
    have HE : Hid (rightR (pl ms) most room = (List.range (pl ms).length).all fun i => okR (pl ms) i (atI (pl ms) i)) := Lib.hid (by rw [rightR_eq]; unfold headR; rw [pl_len, hat]; simp [h0, h1, h2, h3])
    clear h0 h1 h2 h3 hat hn
    go_enter Tryz.func32, Tryz.ntmps32
    go_wp2_with fail
    refine fresh1 (P := fun W => Code.wp _ _ _ _ W) ?_
    intro W0 hb0 hP hs0
    obtain ⟨p0, p1, p2⟩ := cells3 hP
    have pp0 := cell_regrown p0
    have pp1 := cell_regrown p1
    have pp2 := cell_regrown p2
    have cc0 := cell_regrown ((hb0.cell (p := ⟨b, off, none⟩) hb).trans c0)
    have HBy : ∀ W, Below W0.heap.size W0 W → Calls Tryz.prog 70 #[.agg #[.slice (some ⟨b, off, none⟩) ms.length cap, .int .i64 most, .int .i64 room]] W fun e w' => e = .returned (.int .i64 (bytesL (pl ms))) ∧ Below W.heap.size W w' :=
      fun W hb => rbytes_any _ ms most room W (rdm_keep HV.out (ret_tr hb0 hb)) HS.out
    generalize hby : bytesL (pl ms) = y at *
    refine wp_region_quiet_below (by kernel_rfl) (by kernel_rfl) ?_
    repeat (go_big_quiet_step ((go_at_call 70; exact Calls.regrown_of (HBy _ (below_regrown W0 _ _)))))
    refine wpQuiet_nil ?_
    clear pp0 pp1 pp2 cc0
    intro _ hw'
    obtain ⟨⟨dq, osq⟩, hw''⟩ := hw'
    have hbg : Below W0.heap.size W0 _ := below_regrown W0 dq osq
    rw [← hw''] at hbg
    clear hw''
    rename_i W2
    have hB2 := ret_tr hb0 hbg
    have hP2 := Lib.hid ((hbg.block _ (by omega)).trans hP)
    have hs2 := hbg.size
    clear hbg hP p0 p1 p2 HBy
    go_wp2_with fail
    go_loopw [3] (fun i' wr => ∃ k : Nat, i' = .int .i64 k ∧ k ≤ ms.length ∧ Hid (OkTo (fun i => okR (pl ms) i (atI (pl ms) i)) k) ∧ Below W2.heap.size W2 wr) (fun i' _ => ms.length - (intOf i').toNat)
    case atStart => exact ⟨0, rfl, Nat.zero_le _, Lib.hid (fun i hi => absurd hi (Nat.not_lt_zero _)), Below.refl _ _⟩
    case round =>
      obtain ⟨k, rfl, hk, hO, hBr⟩ := hrel
      obtain ⟨p0, p1, p2⟩ := cells3 ((hBr.block _ (by omega)).trans hP2.out)
      have hBw := ret_tr hB2 hBr
      by_cases hlt : k < ms.length
      · go_wp2_with fail
        refine (right_any (.slice (some ⟨b, off, none⟩) ms.length cap) ms most room k hlt wr (rdm_keep HV.out hBw) HS.out HF.out).mono ?_
        rintro e W3 ⟨rfl, hb3⟩
        have hB3 := ret_tr hBr hb3
        cases hok : okR (pl ms) k (atI (pl ms) k) with
        | false =>
          have HX : Hid (rightR (pl ms) most room = false) := Lib.hid (by rw [HE.out]; exact okTo_bad (by rw [pl_len]; exact hlt) hok)
          clear hok
          go_wp2_with fail
          go_ret
          exact ⟨ret_bool HX.out.symm, ret_tr hB2 hB3⟩
        | true =>
          have HX := Lib.hid (okTo_succ hO.out hok)
          clear hok
          go_wp2_with fail
          go_roundw
          case rel => exact ⟨k + 1, by go_num, hlt, HX, hB3⟩
          case measure => simp [intOf]; omega
      · have hke : k = ms.length := by omega
        have HX : Hid (rightR (pl ms) most room = true) := Lib.hid (by rw [HE.out, pl_len, ← hke]; exact okTo_all hO.out)
        have hI5 : decide (k < ms.length) = false := by simp; omega
        clear hke hlt
        go_wp2_with fail
        go_ret
        exact ⟨ret_bool HX.out.symm, hBw⟩
  · have hI3 : (n.kind != 2) = true := by simpa using h3
    have HE : Hid (rightR (pl ms) most room = false) := Lib.hid (by rw [rightR_eq]; unfold headR; rw [hat]; simp [h3])
    clear h0 h1 h2 h3 hat hn
    go_enter Tryz.func32, Tryz.ntmps32
    go_wp2_with fail
    refine fresh1 (P := fun W => Code.wp _ _ _ _ W) ?_
    intro W0 hb0 hP hs0
    obtain ⟨p0, p1, p2⟩ := cells3 hP
    have pp0 := cell_regrown p0
    have pp1 := cell_regrown p1
    have pp2 := cell_regrown p2
    have cc0 := cell_regrown ((hb0.cell (p := ⟨b, off, none⟩) hb).trans c0)
    have HBy : ∀ W, Below W0.heap.size W0 W → Calls Tryz.prog 70 #[.agg #[.slice (some ⟨b, off, none⟩) ms.length cap, .int .i64 most, .int .i64 room]] W fun e w' => e = .returned (.int .i64 (bytesL (pl ms))) ∧ Below W.heap.size W w' :=
      fun W hb => rbytes_any _ ms most room W (rdm_keep HV.out (ret_tr hb0 hb)) HS.out
    generalize hby : bytesL (pl ms) = y at *
    refine wp_region_quiet_below (by kernel_rfl) (by kernel_rfl) ?_
    repeat (go_big_quiet_step ((go_at_call 70; exact Calls.regrown_of (HBy _ (below_regrown W0 _ _)))))
    refine wpQuiet_nil ?_
    clear pp0 pp1 pp2 cc0
    intro _ hw'
    obtain ⟨⟨dq, osq⟩, hw''⟩ := hw'
    have hbg : Below W0.heap.size W0 _ := below_regrown W0 dq osq
    rw [← hw''] at hbg
    clear hw''
    rename_i W2
    have hB2 := ret_tr hb0 hbg
    go_wp2_with fail
    go_ret
    exact ⟨ret_bool HE.out.symm, hB2⟩
end Go.Proofs.YtpmhmippoefcfaaGreatDoor
namespace Go.Proofs.YtpmhmippoefcfaaGreatDoor
open Go.RowKit Go.Shelf
attribute [local go_sem ↓] Go.wp_at_zero Go.wp_at_succ
/-- Is a disk right, and not too much to look at? -/
def smallB (l : List NodeL) : Bool := decide (l.length ≤ 100) && l.all fun n => decide (n.data.length ≤ 300) && decide (n.names.length ≤ 60)
def rightQ (l : List NodeL) (most room : Int) : Bool := smallB l && rightR l most room
theorem small_B {l : List NodeL} (h : smallB l = true) : Small l := by
  unfold smallB at h
  simp only [Bool.and_eq_true, decide_eq_true_iff, List.all_eq_true] at h
  exact ⟨by omega, fun n hn => ⟨(h.2 n hn).1, by have := (h.2 n hn).2; omega⟩⟩
def TinyTo (l : List NodeL) (k : Nat) : Prop := (l.take k).all (fun n => decide (n.data.length ≤ 300) && decide (n.names.length ≤ 60)) = true
theorem tiny_succ {l : List NodeL} {k : Nat} (h : TinyTo l k) (hk : k < l.length) (h1 : l[k].data.length ≤ 300) (h2 : l[k].names.length ≤ 60) : TinyTo l (k + 1) := by
  unfold TinyTo at h ⊢
  rw [List.take_succ_eq_append_getElem hk, List.all_append, h]
  simp [h1, h2]
theorem tiny_bad {l : List NodeL} {k : Nat} (hk : k < l.length) (h : 300 < l[k].data.length ∨ 60 < l[k].names.length) : smallB l = false := by
  unfold smallB
  rw [Bool.and_eq_false_iff]
  refine .inr ?_
  rw [List.all_eq_false]
  refine ⟨l[k], List.getElem_mem hk, ?_⟩
  simp only [Bool.and_eq_true, decide_eq_true_iff]
  omega
theorem tiny_end {l : List NodeL} (h : TinyTo l l.length) (hl : l.length ≤ 100) : smallB l = true := by
  unfold TinyTo at h
  rw [List.take_length] at h
  unfold smallB
  rw [h, decide_eq_true hl]
  rfl
theorem much_bad {l : List NodeL} (hl : 100 < l.length) : smallB l = false := by
  unfold smallB
  rw [decide_eq_false (by omega)]
  rfl
theorem small_names {l : List NodeL} (h : Small l) : ∀ n ∈ l, n.names.length ≤ 10000 := fun n hn => by have := (h.2 n hn).2; omega
set_option maxRecDepth 100000 in
set_option maxHeartbeats 4000000 in
theorem right_q (v : Value) (ms : List NodeM) (most room : Int) (w : World) (hv : RdM w.heap.size v ms w) (hfit : FitD (pl ms)) :
    Calls Tryz.prog 10 #[.agg #[v, .int .i64 most, .int .i64 room]] w fun e w' => e = .returned (.bool (rightQ (pl ms) most room)) ∧ Below w.heap.size w w' := by
  obtain ⟨ao, cap, rfl, _, _⟩ := rdm_form hv
  have hb0 : Below w.heap.size w (w.alloc (.cells #[.slice ao ms.length cap, .int .i64 most, .int .i64 room] 24)) := (Below.refl _ w).alloc (Nat.le_refl _) _
  have HV := Lib.hid (hv.below hb0)
  have HV0 := Lib.hid hv
  have HFit := Lib.hid hfit
  clear hv hfit
  go_enter Tryz.func10, Tryz.ntmps10
  go_wp2_with fail
  go_loop [3] (fun i => ∃ k : Nat, i = .int .i64 k ∧ k ≤ ms.length ∧ k ≤ 110 ∧ Hid (TinyTo (pl ms) k)) (fun i => ms.length - (intOf i).toNat)
  case atStart => exact ⟨0, rfl, Nat.zero_le _, by decide, Lib.hid rfl⟩
  case round =>
    obtain ⟨k, rfl, hk, hk2, hN⟩ := hrel
    by_cases hlt : k < ms.length ∧ k < 110
    · obtain ⟨hlt, h110⟩ := hlt
      obtain ⟨b, off, n, aon, capn, rfl, hb, hn, -, -, c0, c1, c2, c3, c4, c5, c6, c7⟩ := node_at HV.out k hlt
      have hI : decide (k < ms.length) = true := by simpa using hlt
      have hI2 : decide ((k : Int) < 110) = true := by simp; omega
      by_cases hd : 300 < n.data.length
      · have hJ : decide ((300 : Int) < (n.data.length : Int)) = true := by simp; omega
        have HB : Hid (rightQ (pl ms) most room = false) := Lib.hid (by unfold rightQ; rw [tiny_bad (l := pl ms) (k := k) (by rw [pl_len]; exact hlt) (by rw [hn]; exact .inl hd)]; rfl)
        clear hn hd
        go_wp2_with fail
        go_ret
        exact ⟨ret_bool HB.out.symm, hb0⟩
      · have hJ : decide ((300 : Int) < (n.data.length : Int)) = false := by simp; omega
        by_cases hm : 60 < n.names.length
        · have hJ2 : decide ((60 : Int) < (n.names.length : Int)) = true := by simp; omega
          have HB : Hid (rightQ (pl ms) most room = false) := Lib.hid (by unfold rightQ; rw [tiny_bad (l := pl ms) (k := k) (by rw [pl_len]; exact hlt) (by rw [hn]; exact .inr hm)]; rfl)
          clear hn hd hm
          go_wp2_with fail
          go_ret
          exact ⟨ret_bool HB.out.symm, hb0⟩
        · have hJ2 : decide ((60 : Int) < (n.names.length : Int)) = false := by simp; omega
          have HN := Lib.hid (tiny_succ hN.out (by rw [pl_len]; exact hlt) (by rw [hn]; omega) (by rw [hn]; omega))
          clear hn hd hm
          go_wp2_with fail
          go_round
          case rel => exact ⟨k + 1, by go_num, hlt, h110, HN⟩
          case measure => simp [intOf]; omega
    · by_cases hbig : 100 < ms.length
      · have HB : Hid (rightQ (pl ms) most room = false) := Lib.hid (by unfold rightQ; rw [much_bad (by rw [pl_len]; exact hbig)]; rfl)
        have hg : decide ((ms.length : Int) ≤ 100) = false := decide_eq_false (by omega)
        have hx : (decide (k < ms.length) = false) ∨ (decide (k < ms.length) = true ∧ decide ((k : Int) < 110) = false) := by
          by_cases h : k < ms.length
          · exact .inr ⟨by simpa using h, decide_eq_false (by omega)⟩
          · exact .inl (by simpa using h)
        clear hlt hbig
        rcases hx with hI | ⟨hI, hI2⟩
        · go_wp2_with fail
          go_ret
          exact ⟨ret_bool HB.out.symm, hb0⟩
        · go_wp2_with fail
          go_ret
          exact ⟨ret_bool HB.out.symm, hb0⟩
      · have hke : k = ms.length := by omega
        have hsm : smallB (pl ms) = true := tiny_end (by have := hN.out; rwa [hke, ← pl_len] at this) (by rw [pl_len]; omega)
        have HSm := Lib.hid (small_B hsm)
        have HE : Hid (rightQ (pl ms) most room = rightR (pl ms) most room) := Lib.hid (by unfold rightQ; rw [hsm]; rfl)
        have hg : decide ((ms.length : Int) ≤ 100) = true := decide_eq_true (by omega)
        have hI2 : decide (k < ms.length) = false := decide_eq_false (by omega)
        have hl : ms.length ≤ 10000 := by omega
        clear hlt hke hsm
        go_wp2_with fail
        refine calls_fresh1 ?_
        intro W0 hb1 hP hs1
        refine (its_any (.slice ao ms.length cap) ms most room W0 (rdm_keep HV0.out hb1) hl (small_names HSm.out)).mono ?_
        rintro e W2 ⟨v2, rfl, ⟨m2, hm2, hr2⟩, hb2⟩
        have hB2 := ret_tr hb1 hb2
        have hrr := rright_any v2 m2 most room W2 hr2 (by rw [hm2]; exact HSm.out) (by rw [hm2]; exact HFit.out)
        rw [hm2, ← HE.out] at hrr
        have HRR := Lib.hid hrr
        clear hrr hr2 hm2 hb1 hb2 hP
        go_wp2_with fail
        refine HRR.out.mono ?_
        rintro e W3 ⟨rfl, hb3⟩
        go_wp2_with fail
        go_ret
        exact ⟨rfl, ret_tr hB2 hb3⟩
end Go.Proofs.YtpmhmippoefcfaaGreatDoor
namespace Go.Proofs.YtpmhmippoefcfaaGreatDoor
theorem parts_ne (p : Str) : ∀ q ∈ parts p, q ≠ [] := by
  intro q hq
  unfold parts at hq
  obtain ⟨s, hs, rfl⟩ := List.mem_map.1 hq
  have h1 := spans_bd p s hs
  have h2 := cutS_len p s hs
  intro e
  rw [e] at h2
  simp at h2
  omega
theorem checkE_parts (l : Str) : checkE l = if l = [] then 2 else if 100 < l.length then 9 else if (0 : UInt8) ∈ l then 1 else if (parts l).any (fun q => decide (12 < q.length)) then 9 else 0 := by
  have h : (spans l).any (fun p => decide (12 < p.2 - p.1)) = (parts l).any (fun q => decide (12 < q.length)) := by
    unfold parts
    rw [Bool.eq_iff_iff, List.any_eq_true, List.any_eq_true]
    constructor
    · rintro ⟨s, hs, h⟩
      refine ⟨cutS l s, List.mem_map.2 ⟨s, hs, rfl⟩, ?_⟩
      rw [cutS_len l s hs]; exact h
    · rintro ⟨q, hq, h⟩
      obtain ⟨s, hs, rfl⟩ := List.mem_map.1 hq
      rw [cutS_len l s hs] at h
      exact ⟨s, hs, h⟩
  unfold checkE
  rw [h]
end Go.Proofs.YtpmhmippoefcfaaGreatDoor
namespace Go.Proofs.YtpmhmippoefcfaaGreatDoor
def SpotOk (l : List NodeL) (s : SpotL) : Prop :=
  dirE l s.dir = 0 ∧ (s.name = [] → s.ino = s.dir) ∧ (s.name ≠ [] → s.ino = lookL l s.dir s.name)
theorem spot_go {l : List NodeL} (hr : RightP l) (who : Int) (follow slash : Bool) : ∀ i ps hops, (∀ q ∈ ps, q ≠ []) → (goW l who follow slash i ps hops).2 = 0 → SpotOk l (goW l who follow slash i ps hops).1 := by
  refine go_ind l who follow slash (fun i ps hops R => (∀ q ∈ ps, q ≠ []) → R.2 = 0 → SpotOk l R.1) ?_ ?_ ?_ ?_ ?_ ?_ ?_ ?_ ?_ ?_ ?_
  · intro i hops _ _; exact ⟨(right_root hr).1, fun _ => rfl, fun h => absurd rfl h⟩
  · intro i hops p rest hd _ he; exact absurd he hd
  · intro i hops p rest _ _ _ he; cases he
  · intro i hops p hd _ hn hp _
    refine ⟨hd, fun e => absurd e (hp p (by simp)), fun _ => ?_⟩
    exact ((look_neg hr hd p).1 hn).symm
  · intro i hops p rest _ _ _ _ _ he; cases he
  · intro i hops p rest _ _ _ _ _ _ _ he; cases he
  · intro i hops p rest _ _ _ _ _ _ hx _ he; exact absurd he hx
  · intro i hops p rest R _ _ _ _ _ _ _ ih hp he
    refine ih (fun q hq => ?_) he
    rcases List.mem_append.1 hq with hq | hq
    · exact parts_ne _ q hq
    · exact hp q (by simp [hq])
  · intro i hops p _ _ _ _ _ _ _ he; cases he
  · intro i hops p hd _ _ _ _ hp _; exact ⟨hd, fun e => absurd e (hp p (by simp)), fun _ => rfl⟩
  · intro i hops p rest R _ _ _ _ _ ih hp he; exact ih (fun q hq => hp q (by simp [hq])) he
theorem law_spot {l : List NodeL} (hr : RightP l) (who fr : Int) (p : Str) (f : Bool) (h : (walkL l who fr p f).2 = 0) : SpotOk l (walkL l who fr p f).1 := by
  unfold walkL at h ⊢
  split at h
  · rename_i hc; exact absurd h hc
  · rename_i hc
    rw [if_neg hc]
    split at h
    · rename_i hp
      rw [if_pos hp]
      split at h
      · rename_i hd; exact absurd h hd
      · rename_i hd
        rw [if_neg hd]
        exact ⟨Decidable.not_not.1 hd, fun _ => rfl, fun e => absurd rfl e⟩
    · rename_i hp
      rw [if_neg hp]
      exact spot_go hr who f _ _ _ _ (parts_ne p) h
theorem check_short {p : Str} (h : checkE p = 0) : p.length ≤ 100 := by
  unfold checkE at h
  split at h
  · cases h
  · split at h
    · cases h
    · omega
theorem check_ne {p : Str} (h : checkE p = 0) : p ≠ [] := by rintro rfl; cases h
theorem check_zero {p : Str} (h : checkE p = 0) : p ≠ [] ∧ p.length ≤ 100 ∧ (0 : UInt8) ∉ p ∧ ∀ q ∈ parts p, q.length ≤ 12 := by
  have hne := check_ne h
  have hl := check_short h
  rw [checkE_parts, if_neg hne, if_neg (by omega)] at h
  split at h
  · cases h
  · rename_i h0
    split at h
    · cases h
    · rename_i h1
      refine ⟨hne, hl, h0, fun q hq => ?_⟩
      exact Nat.le_of_not_lt fun hb => h1 (List.any_eq_true.2 ⟨q, hq, decide_eq_true hb⟩)
end Go.Proofs.YtpmhmippoefcfaaGreatDoor
namespace Go.Proofs.YtpmhmippoefcfaaGreatDoor
def nd (l : List NodeL) (k : Nat) : NodeL := l.getD k zeroN
theorem nd_lt {l : List NodeL} {k : Nat} (h : k < l.length) : nd l k = l[k] := by
  unfold nd; rw [List.getD_eq_getElem?_getD, List.getElem?_eq_getElem h]; rfl
theorem nd_ge {l : List NodeL} {k : Nat} (h : l.length ≤ k) : nd l k = zeroN := by
  unfold nd; rw [List.getD_eq_getElem?_getD, List.getElem?_eq_none h]; rfl
theorem nd_kind {l : List NodeL} {k : Nat} (h : (nd l k).kind ≠ 0) : k < l.length := by
  refine Decidable.byContradiction fun hk => h ?_
  rw [nd_ge (by omega)]; rfl
theorem at_nd (l : List NodeL) (k : Nat) : atI l (k : Int) = nd l k := by unfold atI nd; rw [Int.toNat_natCast]
theorem got_nd (l : List NodeL) (k : Nat) : gotB l (k : Int) = true ↔ (nd l k).kind ≠ 0 := by
  unfold gotB
  rw [at_nd, Bool.and_eq_true]
  constructor
  · rintro ⟨_, h⟩; simpa using h
  · intro h; exact ⟨nat_in (nd_kind h), by simpa using h⟩
theorem got_nat {l : List NodeL} {i : Int} (h : gotB l i = true) : ∃ k : Nat, i = k ∧ k < l.length ∧ (nd l k).kind ≠ 0 := by
  obtain ⟨h0, h1⟩ := got_le h
  obtain ⟨k, rfl⟩ := Int.eq_ofNat_of_zero_le h0
  exact ⟨k, rfl, by omega, (got_nd l k).1 h⟩
theorem nodeL_nd {l : List NodeL} {k : Nat} (h : (nd l k).kind ≠ 0) : nodeL l (k : Int) = nd l k := by
  unfold nodeL; rw [if_pos ((got_nd l k).2 h), at_nd]
theorem nd_set {l : List NodeL} {k : Nat} (h : k < l.length) (n : NodeL) (j : Nat) : nd (l.set k n) j = if j = k then n else nd l j := by
  unfold nd
  rw [List.getD_eq_getElem?_getD, List.getD_eq_getElem?_getD, List.getElem?_set]
  by_cases e : j = k
  · subst e; simp [h]
  · rw [if_neg e, if_neg (fun h => e h.symm)]
def cntN (es : List EntL) (j : Int) : Nat := es.countP fun e => decide (e.2 = j)
def cnt (l : List NodeL) (j : Int) : Nat := (l.map fun n => cntN n.names j).sum
theorem cntN_nil (j : Int) : cntN [] j = 0 := rfl
theorem cntN_pos {es : List EntL} {j : Int} : 0 < cntN es j ↔ ∃ e ∈ es, e.2 = j := by
  unfold cntN
  rw [List.countP_pos_iff]
  simp
theorem cntN_zero {es : List EntL} {j : Int} : cntN es j = 0 ↔ ∀ e ∈ es, e.2 ≠ j := by
  unfold cntN
  rw [List.countP_eq_zero]
  simp
theorem cntN_app (a b : List EntL) (j : Int) : cntN (a ++ b) j = cntN a j + cntN b j := List.countP_append
theorem cntN_mid (n : Nm) (m : Option Int) (j : Int) : cntN (mid n m) j = if m = some j then 1 else 0 := by
  cases m with
  | none => rfl
  | some i => by_cases h : i = j <;> simp [mid, cntN, h]
theorem cntN_put {es : List EntL} (h : Up es) {nm : Nm} (hf : findL es nm = none) (i j : Int) : cntN (putL es (nm, i)) j = cntN es j + if i = j then 1 else 0 := by
  have e := eparts h nm
  rw [hf] at e
  rw [put_mid]
  conv => rhs; rw [e]
  simp only [cntN_app, cntN_mid]
  by_cases hij : i = j <;> simp [hij] <;> omega
theorem cntN_drop {es : List EntL} (h : Up es) {nm : Nm} {i : Int} (hf : findL es nm = some i) (j : Int) : cntN (dropL es nm) j + (if i = j then 1 else 0) = cntN es j := by
  have e := eparts h nm
  rw [hf] at e
  rw [drop_parts h]
  conv => rhs; rw [e]
  simp only [cntN_app, cntN_mid]
  by_cases hij : i = j <;> simp [hij] <;> omega
theorem cnt_set {l : List NodeL} {k : Nat} (h : k < l.length) (n : NodeL) (j : Int) : cnt (l.set k n) j + cntN (nd l k).names j = cnt l j + cntN n.names j := by
  rw [nd_lt h]
  unfold cnt
  induction l generalizing k with
  | nil => simp at h
  | cons a l ih =>
    cases k with
    | zero => simp; omega
    | succ k =>
      have := ih (k := k) (by simpa using h)
      simp only [List.set_cons_succ, List.map_cons, List.sum_cons, List.getElem_cons_succ] at this ⊢
      omega
theorem cnt_app (l : List NodeL) (n : NodeL) (j : Int) : cnt (l ++ [n]) j = cnt l j + cntN n.names j := by simp [cnt]
theorem cnt_ge {l : List NodeL} (k : Nat) (j : Int) : cntN (nd l k).names j ≤ cnt l j := by
  by_cases h : k < l.length
  · have := cnt_set h ⟨0, 0, 0, 0, 0, 0, [], []⟩ j
    simp only [cntN_nil] at this
    omega
  · rw [nd_ge (by omega)]; exact Nat.zero_le _
theorem cnt_ge2 {l : List NodeL} {k h : Nat} (hne : k ≠ h) (j : Int) : cntN (nd l k).names j + cntN (nd l h).names j ≤ cnt l j := by
  by_cases hk : k < l.length
  · have h1 := cnt_set hk ⟨0, 0, 0, 0, 0, 0, [], []⟩ j
    have h2 := cnt_ge (l := l.set k ⟨0, 0, 0, 0, 0, 0, [], []⟩) h j
    rw [nd_set hk, if_neg (Ne.symm hne)] at h2
    simp only [cntN_nil] at h1
    omega
  · rw [nd_ge (l := l) (k := k) (by omega)]
    have := cnt_ge (l := l) h j
    simpa [zeroN, cntN_nil] using this
theorem nm_cnt (l : List NodeL) (j : Int) (s : Nat × Int) : (nmL l j s).1 = s.1 + cnt l j := by
  have hf : ∀ (es : List EntL) (at' : Int) (s : Nat × Int), (foldN j at' s es).1 = s.1 + cntN es j := by
    intro es at'
    induction es with
    | nil => intro s; rfl
    | cons e es ih =>
      intro s
      show (foldN j at' (stepN j at' s e) es).1 = _
      rw [ih]
      unfold stepN cntN
      by_cases h : e.2 = j <;> simp [h] <;> omega
  have : ∀ k, k ≤ l.length → (nmTo l j s k).1 = s.1 + cnt (l.take k) j := by
    intro k
    induction k with
    | zero => intro _; simp [nmTo, cnt]
    | succ k ih =>
      intro hk
      show (foldN j k (nmTo l j s k) (l.getD k zeroN).names).1 = _
      rw [hf, ih (by omega), List.take_succ_eq_append_getElem (by omega), cnt_app, ← nd_lt (by omega)]
      unfold nd
      omega
  have := this l.length (Nat.le_refl _)
  rwa [List.take_length] at this
inductive Rooted (l : List NodeL) : Int → Prop
  | root : Rooted l 0
  | up (k : Nat) : (nd l k).kind = 2 → Rooted l (nd l k).up → Rooted l k
def LocOk (n : NodeL) : Prop := plainB n = true ∧ (n.kind ≠ 2 → n.names = []) ∧ (n.kind = 2 → n.data = []) ∧ SortedP n.names
/-- How a directory is placed. -/
def Placed (l : List NodeL) (k : Nat) (n : NodeL) : Prop :=
  (cnt l k = 0 → n.names = [] ∧ n.up = 0) ∧ (cnt l k ≠ 0 → cnt l k = 1 ∧ (∃ h : Nat, n.up = h ∧ 0 < cntN (nd l h).names k) ∧ Rooted l k)
/-- What names say of a node. -/
def NamedOk (l : List NodeL) (k : Nat) (n : NodeL) : Prop := n.links = cnt l k ∧ (cnt l k = 0 → 1 ≤ n.opn) ∧ (n.kind = 2 → Placed l k n)
structure RigE (l : List NodeL) (E : Nat → Prop) : Prop where
  root : (nd l 0).kind = 2 ∧ (nd l 0).up = 0 ∧ (nd l 0).links = 1
  zero : ∀ k, (nd l k).kind = 0 → nd l k = zeroN
  loc : ∀ k, (nd l k).kind ≠ 0 → LocOk (nd l k)
  nam : ∀ k, ∀ e ∈ (nd l k).names, ∃ j : Nat, e.2 = j ∧ j ≠ 0 ∧ (nd l j).kind ≠ 0
  nmd : ∀ k, k ≠ 0 → ¬ E k → (nd l k).kind ≠ 0 → NamedOk l k (nd l k)
abbrev Rig (l : List NodeL) : Prop := RigE l fun _ => False
theorem rootR_Rooted {l : List NodeL} : ∀ (f : Nat) (j : Int), rootR l f j = true → Rooted l j := by
  intro f
  induction f with
  | zero => intro j h; cases h
  | succ f ih =>
    intro j h
    rcases rootR_up h with rfl | ⟨hg, hk, h2⟩
    · exact .root
    · obtain ⟨k, rfl, _, _⟩ := got_nat hg
      rw [at_nd] at hk h2
      exact .up k hk (ih _ h2)
theorem rootR_mono (l : List NodeL) : ∀ (f : Nat) (j : Int), rootR l f j = true → rootR l (f + 1) j = true := by
  intro f
  induction f with
  | zero => intro j h; cases h
  | succ f ih =>
    intro j h
    unfold rootR at h ⊢
    split
    · rfl
    · rename_i h0
      rw [if_neg h0] at h
      split at h
      · rename_i h1; rw [if_pos h1]; exact ih _ h
      · cases h
/-- Where the way up takes f steps and no fewer, it goes by as many nodes. -/
theorem rootR_path (l : List NodeL) (h0 : 0 < l.length) : ∀ (f : Nat) (j : Int), rootR l (f + 1) j = true → rootR l f j = false →
    ∃ L : List Nat, L.length = f + 1 ∧ L.Nodup ∧ (∀ x ∈ L, x < l.length) ∧ ∀ x ∈ L, rootR l (f + 1) (x : Int) = true := by
  intro f
  induction f with
  | zero =>
    intro j h _
    refine ⟨[0], rfl, by simp, fun x hx => ?_, fun x hx => ?_⟩
    · obtain rfl := List.mem_singleton.1 hx; exact h0
    · obtain rfl := List.mem_singleton.1 hx; rfl
  | succ f ih =>
    intro j h hn
    have hj : j ≠ 0 := by
      intro e; subst e
      rw [show rootR l (f + 1) 0 = true from rfl] at hn
      cases hn
    rcases rootR_up h with h1 | ⟨hg, hk, h2⟩
    · exact absurd h1 hj
    · have hn' : rootR l f (atI l j).up = false := by
        unfold rootR at hn
        rw [if_neg hj, if_pos (by rw [hg, hk]; rfl)] at hn
        exact hn
      obtain ⟨k, rfl, hlt, _⟩ := got_nat hg
      obtain ⟨L, a1, a2, a3, a4⟩ := ih _ h2 hn'
      refine ⟨k :: L, by simp [a1], List.nodup_cons.2 ⟨fun hm => ?_, a2⟩, fun x hx => ?_, fun x hx => ?_⟩
      · have := a4 k hm
        rw [hn] at this
        cases this
      · rcases List.mem_cons.1 hx with rfl | hx
        · exact hlt
        · exact a3 x hx
      · rcases List.mem_cons.1 hx with rfl | hx
        · exact h
        · exact rootR_mono l _ _ (a4 x hx)
theorem rootR_len (l : List NodeL) (h0 : 0 < l.length) : ∀ (f : Nat) (j : Int), rootR l f j = true → rootR l (l.length + 1) j = true := by
  intro f
  induction f with
  | zero => intro j h; cases h
  | succ f ih =>
    intro j h
    by_cases hf : f + 1 ≤ l.length + 1
    · have : ∀ d, rootR l (f + 1 + d) j = true := by
        intro d
        induction d with
        | zero => exact h
        | succ d ihd => exact rootR_mono l _ _ ihd
      have h2 := this (l.length + 1 - (f + 1))
      rwa [show f + 1 + (l.length + 1 - (f + 1)) = l.length + 1 by omega] at h2
    · cases hc : rootR l f j with
      | true => exact ih j hc
      | false =>
        obtain ⟨L, a1, a2, a3, _⟩ := rootR_path l h0 f j h hc
        have := pigeon _ _ a2 a3
        omega
theorem Rooted_rootR {l : List NodeL} (h0 : 0 < l.length) {j : Int} (h : Rooted l j) : rootR l (l.length + 1) j = true := by
  have : ∃ f, rootR l f j = true := by
    induction h with
    | root => exact ⟨1, rfl⟩
    | up k hk _ ih =>
      obtain ⟨f, hf⟩ := ih
      refine ⟨f + 1, ?_⟩
      unfold rootR
      split
      · rfl
      · rw [at_nd, if_pos (by rw [(got_nd l k).2 (by rw [hk]; decide), hk]; rfl)]
        exact hf
  obtain ⟨f, hf⟩ := this
  exact rootR_len l h0 f j hf
theorem Rooted_iff {l : List NodeL} (h0 : 0 < l.length) (j : Int) : rootR l (l.length + 1) j = true ↔ Rooted l j := ⟨rootR_Rooted _ _, Rooted_rootR h0⟩
end Go.Proofs.YtpmhmippoefcfaaGreatDoor
namespace Go.Proofs.YtpmhmippoefcfaaGreatDoor
theorem holder {l : List NodeL} {k : Int} (h : cnt l k ≠ 0) : ∃ h0 : Nat, (nmL l k (0, -1)).2 = h0 ∧ 0 < cntN (nd l h0).names k := by
  have h1 := nm_holds l k (-1) (by rw [nm_cnt]; omega)
  obtain ⟨h0, e, hlt, x, hx, hk⟩ := h1
  exact ⟨h0, e, by rw [nd_lt hlt]; exact cntN_pos.2 ⟨x, hx, hk⟩⟩
theorem lastR_iff {l : List NodeL} (h0 : 0 < l.length) {k : Nat} (hk : k ≠ 0) (n : NodeL) : lastR l (k : Int) n (nmL l k (0, -1)) = true ↔ NamedOk l k n := by
  have hc := nm_cnt l k (0, -1)
  have hk' : ¬ (k : Int) = 0 := by omega
  unfold lastR NamedOk Placed
  rw [if_neg hk', hc, Nat.zero_add]
  constructor
  · intro h
    split at h
    · cases h
    · rename_i h1
      have hl : n.links = cnt l k := Decidable.byContradiction fun hn => h1 (.inl hn)
      have ho : cnt l k = 0 → 1 ≤ n.opn := fun hz => by
        refine Decidable.byContradiction fun hn => h1 (.inr ⟨hz, by omega⟩)
      refine ⟨hl, ho, fun h2 => ?_⟩
      rw [if_neg (by simpa using h2)] at h
      split at h
      · rename_i hz
        simp only [Bool.and_eq_true, decide_eq_true_iff] at h
        exact ⟨fun _ => ⟨List.eq_nil_of_length_eq_zero h.1, h.2⟩, fun hn => absurd hz hn⟩
      · rename_i hz
        simp only [Bool.and_eq_true, decide_eq_true_iff] at h
        refine ⟨fun hn => absurd hn hz, fun _ => ⟨h.1.1, ?_, (Rooted_iff h0 k).1 h.2⟩⟩
        obtain ⟨h3, e, hp⟩ := holder (l := l) (k := k) hz
        exact ⟨h3, h.1.2.trans e, hp⟩
  · rintro ⟨hl, ho, hd⟩
    rw [if_neg (by rintro (h | ⟨h, h'⟩); exact h hl; have := ho h; omega)]
    split
    · rfl
    · rename_i h2
      obtain ⟨p0, p1⟩ := hd (by simpa using h2)
      split
      · rename_i hz
        obtain ⟨e1, e2⟩ := p0 hz
        rw [e1, e2]; rfl
      · rename_i hz
        obtain ⟨e1, ⟨h3, e2, e3⟩, e4⟩ := p1 hz
        obtain ⟨h5, e6, hp⟩ := holder (l := l) (k := k) hz
        have : h3 = h5 := Decidable.byContradiction fun hne => by
          have := cnt_ge2 (l := l) hne k
          omega
        subst this
        simp only [Bool.and_eq_true, decide_eq_true_iff]
        exact ⟨⟨e1, e2.trans e6.symm⟩, (Rooted_iff h0 k).2 e4⟩
theorem okR_iff {l : List NodeL} {k : Nat} {n : NodeL} (hn : n.kind ≠ 0) : okR l k n = true ↔ LocOk n ∧ namableB l n.names = true ∧ lastR l k n (nmL l k (0, -1)) = true := by
  unfold okR LocOk
  rw [if_neg hn]
  simp only [Bool.and_eq_true, decide_eq_true_iff, Bool.or_eq_true, Bool.not_eq_true', decide_eq_false_iff_not]
  constructor
  · rintro ⟨⟨⟨⟨⟨h1, h2⟩, h3⟩, h4⟩, h5⟩, h6⟩
    exact ⟨⟨h1, fun hk => List.eq_nil_of_length_eq_zero (h2.resolve_left hk), fun hk => h3.resolve_left (fun h => h hk), h4⟩, h5, h6⟩
  · rintro ⟨⟨h1, h2, h3, h4⟩, h5, h6⟩
    refine ⟨⟨⟨⟨⟨h1, ?_⟩, ?_⟩, h4⟩, h5⟩, h6⟩
    · by_cases hk : n.kind = 2
      · exact .inl hk
      · exact .inr (by rw [h2 hk]; rfl)
    · by_cases hk : n.kind = 2
      · exact .inr (h3 hk)
      · exact .inl hk
theorem namable_iff {l : List NodeL} {es : List EntL} : namableB l es = true ↔ ∀ e ∈ es, ∃ j : Nat, e.2 = j ∧ j ≠ 0 ∧ (nd l j).kind ≠ 0 := by
  unfold namableB
  rw [List.all_eq_true]
  refine forall_congr' fun e => forall_congr' fun _ => ?_
  unfold namB
  simp only [Bool.and_eq_true, Bool.not_eq_true', decide_eq_false_iff_not]
  constructor
  · rintro ⟨h1, h2⟩
    obtain ⟨k, hk, _, h3⟩ := got_nat h1
    exact ⟨k, hk, by omega, h3⟩
  · rintro ⟨j, h1, h2, h3⟩
    rw [h1]
    exact ⟨(got_nd l j).2 h3, by omega⟩
theorem right_iff (l : List NodeL) (most room : Int) : rightR l most room = true ↔ Rig l ∧ 0 < l.length ∧ (l.length : Int) ≤ most ∧ (bytesL l : Int) ≤ room := by
  unfold rightR
  simp only [Bool.and_eq_true, Bool.not_eq_true', decide_eq_false_iff_not, decide_eq_true_iff]
  rw [range_all]
  have hat0 : atI l 0 = nd l 0 := at_nd l 0
  constructor
  · rintro ⟨⟨⟨⟨h1, h2⟩, h3⟩, h4⟩, h5⟩
    have hlen : 0 < l.length := by omega
    rw [hat0] at h4
    have hok : ∀ k, (nd l k).kind ≠ 0 → LocOk (nd l k) ∧ namableB l (nd l k).names = true ∧ lastR l k (nd l k) (nmL l k (0, -1)) = true := fun k hk => by
      have := h5 k (nd_kind hk)
      rw [at_nd] at this
      exact (okR_iff hk).1 this
    refine ⟨⟨?_, fun k hk => ?_, fun k hk => (hok k hk).1, fun k e he => ?_, fun k h0 _ hk => ?_⟩, hlen, by omega, by omega⟩
    · have := (hok 0 (by rw [h4]; decide)).2.2
      unfold lastR at this
      rw [if_pos (show ((0 : Nat) : Int) = 0 from rfl)] at this
      simp only [Bool.and_eq_true, decide_eq_true_iff] at this
      exact ⟨this.1.1, this.1.2, this.2⟩
    · by_cases hlt : k < l.length
      · have := h5 k hlt
        rw [at_nd] at this
        unfold okR at this
        rw [if_pos hk] at this
        exact of_decide_eq_true this
      · exact nd_ge (by omega)
    · have hkk : (nd l k).kind ≠ 0 := fun hz => by
        by_cases hlt : k < l.length
        · have := h5 k hlt
          rw [at_nd] at this
          unfold okR at this
          rw [if_pos hz] at this
          rw [of_decide_eq_true this] at he
          cases he
        · rw [nd_ge (by omega)] at he
          cases he
      exact namable_iff.1 (hok k hkk).2.1 e he
    · exact (lastR_iff hlen h0 _).1 (hok k hk).2.2
  · rintro ⟨hR, hlen, h2, h3⟩
    refine ⟨⟨⟨⟨by omega, by omega⟩, by omega⟩, by rw [hat0]; exact hR.root.1⟩, fun k hk => ?_⟩
    rw [at_nd]
    by_cases hz : (nd l k).kind = 0
    · unfold okR
      rw [if_pos hz]
      exact decide_eq_true (hR.zero k hz)
    · refine (okR_iff hz).2 ⟨hR.loc k hz, namable_iff.2 (hR.nam k), ?_⟩
      by_cases h0 : k = 0
      · subst h0
        unfold lastR
        rw [if_pos (show ((0 : Nat) : Int) = 0 from rfl)]
        obtain ⟨a, b, c⟩ := hR.root
        rw [a, b, c]; rfl
      · exact (lastR_iff hlen h0 _).2 (hR.nmd k h0 (fun h => h) hz)
/-- The way up stays, of all nodes for which P, if each step of it does. -/
theorem Rooted.mono {l l' : List NodeL} (P : Nat → Prop) (hs : ∀ k, P k → (nd l k).kind = 2 → (nd l' k).kind = 2 ∧ (nd l' k).up = (nd l k).up ∧ ∀ u : Nat, (nd l k).up = u → u ≠ 0 → P u) :
    ∀ {j : Int}, Rooted l j → (∀ k : Nat, j = k → k ≠ 0 → P k) → Rooted l' j := by
  intro j h
  induction h with
  | root => exact fun _ => .root
  | up k hk hr ih =>
    intro hP
    by_cases h0 : k = 0
    · subst h0; exact .root
    · obtain ⟨a, b, c⟩ := hs k (hP k rfl h0) hk
      refine .up k a ?_
      rw [b]
      exact ih fun u hu => c u hu
theorem NamedOk.same {l l' : List NodeL} {k : Nat} {n : NodeL} (h : NamedOk l k n) (hc : cnt l' k = cnt l k) (hh : n.kind = 2 → ∀ h : Nat, 0 < cntN (nd l h).names k → 0 < cntN (nd l' h).names k) (hr : n.kind = 2 → Rooted l k → Rooted l' k) : NamedOk l' k n := by
  obtain ⟨h1, h2, h3⟩ := h
  refine ⟨by rw [hc]; exact h1, by rw [hc]; exact h2, fun hk => ?_⟩
  obtain ⟨h4, h5⟩ := h3 hk
  refine ⟨by rw [hc]; exact h4, ?_⟩
  rw [hc]
  intro hn
  obtain ⟨a, ⟨u, b, c⟩, d⟩ := h5 hn
  exact ⟨a, ⟨u, b, hh hk u c⟩, hr hk d⟩
/-- The same nodes, but for the names of one directory. -/
theorem RigE.names {l : List NodeL} {E : Nat → Prop} (h : RigE l E) (d : Nat) (hd : (nd l d).kind = 2) (es : List EntL) (E' : Nat → Prop) (hE : ∀ k, E k → E' k) (hs : SortedP es)
    (hn : ∀ e ∈ es, ∃ j : Nat, e.2 = j ∧ j ≠ 0 ∧ (nd l j).kind ≠ 0) (hc : ∀ j : Nat, ¬ E' j → cntN es j = cntN (nd l d).names j) (hz : d ≠ 0 → ¬ E' d → cnt l d = 0 → es = []) :
    RigE (l.set d { nd l d with names := es }) E' := by
  have hlt : d < l.length := nd_kind (by rw [hd]; decide)
  have hnd : ∀ j, nd (l.set d { nd l d with names := es }) j = if j = d then { nd l d with names := es } else nd l j := nd_set hlt _
  have hk : ∀ j, (nd (l.set d { nd l d with names := es }) j).kind = (nd l j).kind ∧ (nd (l.set d { nd l d with names := es }) j).up = (nd l j).up ∧ (nd (l.set d { nd l d with names := es }) j).links = (nd l j).links := fun j => by
    rw [hnd]; split
    · rename_i e; rw [e]; exact ⟨rfl, rfl, rfl⟩
    · exact ⟨rfl, rfl, rfl⟩
  have hcn : ∀ j : Nat, ¬ E' j → cnt (l.set d { nd l d with names := es }) j = cnt l j := fun j hj => by
    have h1 : cnt (l.set d { nd l d with names := es }) j + cntN (nd l d).names j = cnt l j + cntN es j := cnt_set hlt _ j
    have h2 := hc j hj
    omega
  refine ⟨by obtain ⟨a, b, c⟩ := h.root; exact ⟨(hk 0).1.trans a, (hk 0).2.1.trans b, (hk 0).2.2.trans c⟩, fun j hj => ?_, fun j hj => ?_, fun j e he => ?_, fun j h0 hj hjk => ?_⟩
  · rw [(hk j).1] at hj
    rw [hnd, if_neg (by intro e; rw [e, hd] at hj; cases hj)]
    exact h.zero j hj
  · rw [(hk j).1] at hj
    rw [hnd]
    split
    · rename_i e
      subst e
      obtain ⟨a, b, c, _⟩ := h.loc j hj
      exact ⟨a, fun h => absurd hd h, c, hs⟩
    · exact h.loc j hj
  · have : ∃ i : Nat, e.2 = i ∧ i ≠ 0 ∧ (nd l i).kind ≠ 0 := by
      rw [hnd] at he
      split at he
      · exact hn e he
      · exact h.nam j e he
    obtain ⟨i, a, b, c⟩ := this
    exact ⟨i, a, b, by rw [(hk i).1]; exact c⟩
  · rw [(hk j).1] at hjk
    have hn := h.nmd j h0 (fun he => hj (hE j he)) hjk
    have hn' : NamedOk (l.set d { nd l d with names := es }) j (nd l j) := by
      refine hn.same (hcn j hj) (fun _ u hu => ?_) fun _ hr => hr.mono (fun _ => True) (fun k _ hk2 => ⟨(hk k).1.trans hk2, (hk k).2.1, fun _ _ _ => trivial⟩) fun _ _ _ => trivial
      rw [hnd]
      split
      · rename_i e; subst e; simp only; rw [hc j hj]; exact hu
      · exact hu
    rw [hnd]
    split
    · rename_i e
      subst e
      obtain ⟨a, b, c⟩ := hn'
      refine ⟨a, b, fun h2 => ?_⟩
      obtain ⟨c1, c2⟩ := c hd
      refine ⟨fun hz0 => ⟨hz h0 hj ((hcn j hj).symm.trans hz0), (c1 hz0).2⟩, c2⟩
    · exact hn'
/-- One node more that is right by itself. -/
theorem RigE.less {l : List NodeL} {E E' : Nat → Prop} (h : RigE l E) (hE : ∀ k, E k → E' k ∨ (k ≠ 0 → (nd l k).kind ≠ 0 → NamedOk l k (nd l k))) : RigE l E' := by
  refine ⟨h.root, h.zero, h.loc, h.nam, fun k h0 hk hkk => ?_⟩
  by_cases he : E k
  · exact (hE k he).resolve_left hk h0 hkk
  · exact h.nmd k h0 he hkk
/-- A node that is left out may be another one, or none, if no way goes by it, and none names it. -/
theorem RigE.node {l : List NodeL} {E : Nat → Prop} (h : RigE l E) {y : Nat} (hy : E y) (h0 : y ≠ 0) (hlt : y < l.length) (n : NodeL) (hnm : n.names = (nd l y).names) (hl : n.kind ≠ 0 → LocOk n) (hz : n.kind = 0 → n = zeroN) (hk0 : n.kind = 0 → ∀ k, cntN (nd l k).names y = 0)
    (hr : ∀ k : Nat, k ≠ 0 → ¬ E k → (nd l k).kind = 2 → Rooted l k → Rooted (l.set y n) k) : RigE (l.set y n) E := by
  have hnd : ∀ j, nd (l.set y n) j = if j = y then n else nd l j := nd_set hlt _
  have hc : ∀ j : Int, cnt (l.set y n) j = cnt l j := fun j => by
    have := cnt_set hlt n j
    rw [hnm] at this
    omega
  have hns : ∀ j, (nd (l.set y n) j).names = (nd l j).names := fun j => by
    rw [hnd]; split
    · rename_i e; rw [e, hnm]
    · rfl
  refine ⟨by rw [hnd, if_neg (Ne.symm h0)]; exact h.root, fun j hj => ?_, fun j hj => ?_, fun j e he => ?_, fun j hj0 hj hjk => ?_⟩
  · rw [hnd] at hj ⊢
    split
    · rename_i e; rw [if_pos e] at hj; exact hz hj
    · rename_i e; rw [if_neg e] at hj; exact h.zero j hj
  · rw [hnd] at hj ⊢
    split
    · rename_i e; rw [if_pos e] at hj; exact hl hj
    · rename_i e; rw [if_neg e] at hj; exact h.loc j hj
  · rw [hns] at he
    obtain ⟨i, a, b, c⟩ := h.nam j e he
    refine ⟨i, a, b, ?_⟩
    rw [hnd]
    split
    · rename_i e1
      subst e1
      intro hn0
      have := cntN_zero.1 (hk0 hn0 j) e he
      exact this a
    · exact c
  · have hjy : j ≠ y := fun e => hj (e ▸ hy)
    rw [hnd, if_neg hjy] at hjk ⊢
    refine (h.nmd j hj0 hj hjk).same (hc j) (fun _ u hu => by rw [hns]; exact hu) fun h2 hr0 => hr j hj0 hj h2 hr0
end Go.Proofs.YtpmhmippoefcfaaGreatDoor
namespace Go.Proofs.YtpmhmippoefcfaaGreatDoor
def settleL (l : List NodeL) (i : Int) : List NodeL := if gotB l i = true ∧ i ≠ 0 ∧ (nodeL l i).links ≤ 0 ∧ (nodeL l i).opn ≤ 0 then setL l i zeroN else l
def writesL (l : List NodeL) (who d : Int) : Bool := mayB (nodeL l d).mode (nodeL l d).owner who 2
def putN (n : NodeL) (nm : Nm) (i : Int) : NodeL := { n with names := putL n.names (nm, i) }
def dropN (n : NodeL) (nm : Nm) : NodeL := { n with names := dropL n.names nm }
def namedL (l : List NodeL) (s : SpotL) (i : Int) : List NodeL := setL l s.dir (putN (nodeL l s.dir) s.name i)
def droppedL (l : List NodeL) (s : SpotL) : List NodeL := setL l s.dir (dropN (nodeL l s.dir) s.name)
def freeE (l : List NodeL) (who : Int) (s : SpotL) : Int := if 0 ≤ s.ino then 3 else if (nodeL l s.dir).links < 1 then 2 else if writesL l who s.dir = false then 7 else 0
abbrev ChgL := List NodeL × Int
abbrev MakL := List NodeL × Int × Int
def ownN (n : NodeL) (who : Int) : NodeL := { n with links := 1, owner := who }
def enterL (l : List NodeL) (most room who : Int) (s : SpotL) (n : NodeL) : MakL :=
  if freeE l who s ≠ 0 then (l, 0, freeE l who s)
  else if addE l most room (ownN n who) ≠ 0 then (l, 0, addE l most room (ownN n who))
  else (namedL (addL l most room (ownN n who)) s (addI l most room (ownN n who)), addI l most room (ownN n who), 0)
def fileN (mode : Int) : NodeL := ⟨1, mode % 64, 0, 0, 0, 0, [], []⟩
def dirN (mode up : Int) : NodeL := ⟨2, mode % 64, 0, 0, 0, up, [], []⟩
def mkfileL (l : List NodeL) (most room who fr : Int) (path : Str) (mode : Int) : MakL :=
  if (walkL l who fr path false).2 ≠ 0 then (l, 0, (walkL l who fr path false).2)
  else if (walkL l who fr path false).1.slash = true ∧ (walkL l who fr path false).1.ino < 0 then (l, 0, 5)
  else enterL l most room who (walkL l who fr path false).1 (fileN mode)
def mkdirL (l : List NodeL) (most room who fr : Int) (path : Str) (mode : Int) : ChgL :=
  if (walkL l who fr path false).2 ≠ 0 then (l, (walkL l who fr path false).2)
  else ((enterL l most room who (walkL l who fr path false).1 (dirN mode (walkL l who fr path false).1.dir)).1, (enterL l most room who (walkL l who fr path false).1 (dirN mode (walkL l who fr path false).1.dir)).2.2)
def lessN (n : NodeL) : NodeL := { n with links := n.links - 1, up := if n.kind = 2 then 0 else n.up }
def lostL (l : List NodeL) (s : SpotL) : List NodeL := settleL (setL (droppedL l s) s.ino (lessN (nodeL (droppedL l s) s.ino))) s.ino
/-- What is wrong with a spot whose name has to be there. -/
def thereE (R : ResL) : Int := if R.2 ≠ 0 then R.2 else if R.1.ino < 0 then 2 else 0
def unlinkL (l : List NodeL) (who fr : Int) (path : Str) : ChgL :=
  if thereE (walkL l who fr path false) ≠ 0 then (l, thereE (walkL l who fr path false))
  else if (nodeL l (walkL l who fr path false).1.ino).kind = 2 then (l, 5)
  else if writesL l who (walkL l who fr path false).1.dir = false then (l, 7)
  else (lostL l (walkL l who fr path false).1, 0)
def rmdirE (l : List NodeL) (who : Int) (s : SpotL) : Int :=
  if (nodeL l s.ino).kind ≠ 2 then 4 else if s.name = [] ∨ s.name = [46] then 1 else if s.name = [46, 46] then 6
  else if writesL l who s.dir = false then 7 else if (nodeL l s.ino).names ≠ [] then 6 else 0
def rmdirL (l : List NodeL) (who fr : Int) (path : Str) : ChgL :=
  if thereE (walkL l who fr path false) ≠ 0 then (l, thereE (walkL l who fr path false))
  else if rmdirE l who (walkL l who fr path false).1 ≠ 0 then (l, rmdirE l who (walkL l who fr path false).1)
  else (lostL l (walkL l who fr path false).1, 0)
def beneathL (l : List NodeL) : Nat → Int → Int → Bool
  | 0, _, _ => false
  | f + 1, i, top => if i = top then true else if i = 0 then false else beneathL l f (nodeL l i).up top
def dotsB (nm : Nm) : Bool := decide (nm = []) || decide (nm = [46]) || decide (nm = [46, 46])
def overE (l : List NodeL) (s t : SpotL) : Int :=
  if (nodeL l t.dir).links < 1 then 2
  else if (nodeL l s.ino).kind = 2 then
    if beneathL l (l.length + 1) t.dir s.ino = true then 15
    else if gotB l t.ino = true ∧ (nodeL l t.ino).kind ≠ 2 then 4
    else if gotB l t.ino = true ∧ (nodeL l t.ino).names ≠ [] then 6
    else 0
  else if gotB l t.ino = true ∧ (nodeL l t.ino).kind = 2 then 5
  else if t.slash = true then 4 else 0
def placeN (n : NodeL) (d : Int) : NodeL := { n with up := if n.kind = 2 then d else n.up }
/-- Behind the old name's drop, and the new one's loss. -/
def movedL (l : List NodeL) (s t : SpotL) : List NodeL := if 0 ≤ t.ino then lostL (droppedL l s) t else droppedL l s
def moveL (l : List NodeL) (s t : SpotL) : List NodeL :=
  setL (namedL (movedL l s t) t s.ino) s.ino (placeN (nodeL (namedL (movedL l s t) t s.ino) s.ino) t.dir)
/-- What is wrong with two spots of which one is to take the other one's place; -1: they name one node. -/
def renameE (l : List NodeL) (who1 who2 : Int) (s t : SpotL) : Int :=
  if dotsB s.name = true ∨ dotsB t.name = true then 1
  else if writesL l who1 s.dir = false ∨ writesL l who2 t.dir = false then 7
  else if s.ino = t.ino then -1 else overE l s t
def renameL (l : List NodeL) (who1 fr1 who2 fr2 : Int) (old path : Str) : ChgL :=
  if thereE (walkL l who1 fr1 old false) ≠ 0 then (l, thereE (walkL l who1 fr1 old false))
  else if (walkL l who2 fr2 path false).2 ≠ 0 then (l, (walkL l who2 fr2 path false).2)
  else if renameE l who1 who2 (walkL l who1 fr1 old false).1 (walkL l who2 fr2 path false).1 = -1 then (l, 0)
  else if renameE l who1 who2 (walkL l who1 fr1 old false).1 (walkL l who2 fr2 path false).1 ≠ 0 then (l, renameE l who1 who2 (walkL l who1 fr1 old false).1 (walkL l who2 fr2 path false).1)
  else (moveL l (walkL l who1 fr1 old false).1 (walkL l who2 fr2 path false).1, 0)
end Go.Proofs.YtpmhmippoefcfaaGreatDoor
namespace Go.Proofs.YtpmhmippoefcfaaGreatDoor
open Go.RowKit Go.Shelf
attribute [local go_sem ↓] Go.wp_at_zero Go.wp_at_succ
theorem code_fresh2 {P : Program} {a : Act} {w : World} {A B : Obj} {c : Code} {K : Exit → Act → World → Prop} (h : ∀ W, Below w.heap.size w W → W.heap[w.heap.size]? = some A → W.heap[w.heap.size + 1]? = some B → W.heap.size = w.heap.size + 2 → c.wp P K a W) : c.wp P K a ((w.alloc A).alloc B) := fresh2 (P := fun W => c.wp P K a W) h
theorem code_fresh3 {P : Program} {a : Act} {w : World} {A B C : Obj} {c : Code} {K : Exit → Act → World → Prop} (h : ∀ W, Below w.heap.size w W → W.heap[w.heap.size]? = some A → W.heap[w.heap.size + 1]? = some B → W.heap[w.heap.size + 2]? = some C → W.heap.size = w.heap.size + 3 → c.wp P K a W) : c.wp P K a (((w.alloc A).alloc B).alloc C) := fresh3 (P := fun W => c.wp P K a W) h
/-- Nodes that read as these, in no block of X. -/
def GivesX (X : Nat → Prop) (l : List NodeL) (v : Value) (W : World) : Prop := ∃ ms, pl ms = l ∧ RdM W.heap.size v ms W ∧ ∀ g, X g → AvoidM g v ms
/-- A node's names, in no block of X. -/
def NodeX (X : Nat → Prop) (n : NodeL) (vn : Value) (W : World) : Prop := RdNm W.heap.size (n, vn) W ∧ ∀ g, X g → Avoid g vn
/-- Old blocks. -/
def Old (X : Nat → Prop) (W : World) : Prop := ∀ g, X g → g < W.heap.size
theorem GivesX.gives {X : Nat → Prop} {l : List NodeL} {v : Value} {W : World} (h : GivesX X l v W) : GivesN l v W := by
  obtain ⟨ms, a, b, _⟩ := h; exact ⟨ms, a, b⟩
theorem GivesX.keep {X : Nat → Prop} {l : List NodeL} {v : Value} {W W' : World} (h : GivesX X l v W) (hb : Below W.heap.size W W') : GivesX X l v W' := by
  obtain ⟨ms, a, b, c⟩ := h; exact ⟨ms, a, rdm_keep b hb, c⟩
theorem GivesX.sub {X Y : Nat → Prop} {l : List NodeL} {v : Value} {W : World} (h : GivesX X l v W) (hs : ∀ g, Y g → X g) : GivesX Y l v W := by
  obtain ⟨ms, a, b, c⟩ := h; exact ⟨ms, a, b, fun g hg => c g (hs g hg)⟩
/-- .. nor in newer blocks. -/
theorem GivesX.add {X Y : Nat → Prop} {l : List NodeL} {v : Value} {W W' : World} (h : GivesX X l v W) (hb : Below W.heap.size W W') (hY : ∀ g, Y g → X g ∨ W.heap.size ≤ g) : GivesX Y l v W' := by
  obtain ⟨ms, a, b, c⟩ := h
  refine ⟨ms, a, rdm_keep b hb, fun g hg => ?_⟩
  rcases hY g hg with h1 | h1
  · exact c g h1
  · exact ⟨rd_far b.1 h1, fun x hx => rd_far (b.2 x hx) h1⟩
theorem GivesX.other {X : Nat → Prop} {l : List NodeL} {v : Value} {b : Nat} {W W' : World} (h : GivesX X l v W) (hX : X b) (hs : W'.heap.size = W.heap.size) (hg : ∀ g, g ≠ b → W'.heap[g]? = W.heap[g]?) : GivesX X l v W' := by
  obtain ⟨ms, a, h1, c⟩ := h
  refine ⟨ms, a, ?_, c⟩
  rw [hs]
  exact rdm_other h1 (c b hX).1 (fun x hx => (c b hX).2 x hx) hg
theorem NodeX.keep {X : Nat → Prop} {n : NodeL} {vn : Value} {W W' : World} (h : NodeX X n vn W) (hb : Below W.heap.size W W') : NodeX X n vn W' := ⟨rdnm_keep h.1 hb, h.2⟩
theorem NodeX.sub {X Y : Nat → Prop} {n : NodeL} {vn : Value} {W : World} (h : NodeX X n vn W) (hs : ∀ g, Y g → X g) : NodeX Y n vn W := ⟨h.1, fun g hg => h.2 g (hs g hg)⟩
theorem NodeX.add {X Y : Nat → Prop} {n : NodeL} {vn : Value} {W W' : World} (h : NodeX X n vn W) (hb : Below W.heap.size W W') (hY : ∀ g, Y g → X g ∨ W.heap.size ≤ g) : NodeX Y n vn W' :=
  ⟨rdnm_keep h.1 hb, fun g hg => (hY g hg).elim (h.2 g) fun h1 => rd_far h.1 h1⟩
theorem NodeX.other {X : Nat → Prop} {n : NodeL} {vn : Value} {b : Nat} {W W' : World} (h : NodeX X n vn W) (hX : X b) (hs : W'.heap.size = W.heap.size) (hg : ∀ g, g ≠ b → W'.heap[g]? = W.heap[g]?) : NodeX X n vn W' := by
  refine ⟨?_, h.2⟩
  rw [hs]
  exact rd_other h.1 (h.2 b hX) hg
theorem NodeX.zero (X : Nat → Prop) (W : World) : NodeX X zeroN (.slice none 0 0) W := ⟨Rd.none0 _ _ _, fun g _ a n c e _ => by cases e⟩
theorem NodeX.same {X : Nat → Prop} {n m : NodeL} {vn : Value} {W : World} (h : NodeX X n vn W) (e : m.names = n.names) : NodeX X m vn W := by
  refine ⟨?_, h.2⟩
  have h1 := h.1
  unfold RdNm at h1 ⊢
  rw [e]
  exact h1
theorem Old.keep {X : Nat → Prop} {W W' : World} (h : Old X W) (hb : W.heap.size ≤ W'.heap.size) : Old X W' := fun g hg => Nat.lt_of_lt_of_le (h g hg) hb
theorem gives_form {X : Nat → Prop} {l : List NodeL} {v : Value} {W : World} (h : GivesX X l v W) : ∃ ao cap, v = .slice ao l.length cap := by
  obtain ⟨ms, rfl, hv, _⟩ := h
  obtain ⟨ao, cap, e, _, _⟩ := rdm_form hv
  exact ⟨ao, cap, by rw [pl_len]; exact e⟩
theorem node_form {X : Nat → Prop} {n : NodeL} {v : Value} {W : World} (h : NodeX X n v W) : ∃ ao cap, v = .slice ao n.names.length cap := by
  obtain ⟨ao, cap, e, _, _⟩ := Rd.form h.1
  exact ⟨ao, cap, e⟩
/-- A disk as a result. -/
def RDiskIs (X : Nat → Prop) (l : List NodeL) (most room : Int) (e : Ending) (w w' : World) : Prop :=
  ∃ ao cap, e = .returned (.agg #[.slice ao l.length cap, .int .i64 most, .int .i64 room]) ∧ GivesX X l (.slice ao l.length cap) w' ∧ Below w.heap.size w w'
end Go.Proofs.YtpmhmippoefcfaaGreatDoor
namespace Go.Proofs.YtpmhmippoefcfaaGreatDoor
open Go.RowKit Go.Shelf
attribute [local go_sem ↓] Go.wp_at_zero Go.wp_at_succ
/-- .. in memory of its own. -/
def GivesEN (l : List EntL) (e : Ending) (W W' : World) : Prop := ∃ v, e = .returned v ∧ Rd W'.heap.size 2 v l.length (ents l) W' ∧ Below W.heap.size W W' ∧ NewV W.heap.size v
theorem new_avoid {B g : Nat} {v : Value} (h : NewV B v) (hg : g < B) : Avoid g v := by
  rintro a n c rfl _ e
  have := h a.block rfl
  omega
end Go.Proofs.YtpmhmippoefcfaaGreatDoor
namespace Go.Proofs.YtpmhmippoefcfaaGreatDoor
open Go.RowKit Go.Shelf
attribute [local go_sem ↓] Go.wp_at_zero Go.wp_at_succ
theorem code_set1 {P : Program} {a : Act} {w : World} {c : Code} {K : Exit → Act → World → Prop} {b i : Nat} {u : Value} {cs : Array Value} {t : TypeId} (hb : w.heap[b]? = some (.cells cs t (0, 0)))
    (h : ∀ W', Below b w W' → (∀ g, g ≠ b → W'.heap[g]? = w.heap[g]?) → W'.heap.size = w.heap.size → W'.heap[b]? = some (.cells (cs.setIfInBounds i u) t (0, 0)) → c.wp P K a W') : c.wp P K a (w.setCell ⟨b, i, none⟩ u) :=
  h _ ((Below.refl b w).setCell (p := ⟨b, i, none⟩) (Nat.le_refl _) u) (fun g hg => Below.heap_setCell _ _ _ g hg) (by simp [World.setCell]) (heap_set hb)
abbrev diskV (ao : Option Addr) (n cap : Nat) (most room : Int) : Value := .agg #[.slice ao n cap, .int .i64 most, .int .i64 room]
end Go.Proofs.YtpmhmippoefcfaaGreatDoor
namespace Go.Proofs.YtpmhmippoefcfaaGreatDoor
open Go.RowKit Go.Shelf
attribute [local go_sem ↓] Go.wp_at_zero Go.wp_at_succ
/-- Blocks of one's own. -/
abbrev And1 (X : Nat → Prop) (b : Nat) : Nat → Prop := fun g => X g ∨ g = b
theorem Old.and {X : Nat → Prop} {b : Nat} {W : World} (h : Old X W) (hb : b < W.heap.size) : Old (And1 X b) W := fun g hg => hg.elim (h g) fun (e : g = b) => by rw [e]; exact hb
theorem GivesX.and {X : Nat → Prop} {b : Nat} {l : List NodeL} {v : Value} {W W' : World} (h : GivesX X l v W) (hb : Below W.heap.size W W') (hn : W.heap.size ≤ b) : GivesX (And1 X b) l v W' := h.add hb fun g hg => hg.imp id fun (e : g = b) => by rw [e]; exact hn
theorem NodeX.and {X : Nat → Prop} {b : Nat} {n : NodeL} {v : Value} {W W' : World} (h : NodeX X n v W) (hb : Below W.heap.size W W') (hn : W.heap.size ≤ b) : NodeX (And1 X b) n v W' := h.add hb fun g hg => hg.imp id fun (e : g = b) => by rw [e]; exact hn
end Go.Proofs.YtpmhmippoefcfaaGreatDoor
namespace Go.Proofs.YtpmhmippoefcfaaGreatDoor
open Go.RowKit Go.Shelf
/-- A block and its cells. -/
abbrev Bl := Nat × Array Value × TypeId
def Xo (X : Nat → Prop) (L : List Nat) : Nat → Prop := fun g => X g ∨ g ∈ L
structure St (X : Nat → Prop) (w : World) (B : List Bl) (G : List (List NodeL × Value)) (N : List (NodeL × Value)) (W : World) : Prop where
  bel : Below w.heap.size w W
  old : Old X w
  blk : ∀ x ∈ B, W.heap[x.1]? = some (.cells x.2.1 x.2.2 (0, 0)) ∧ w.heap.size ≤ x.1
  nd : (B.map (·.1)).Nodup
  gv : ∀ x ∈ G, GivesX (Xo X (B.map (·.1))) x.1 x.2 W
  nv : ∀ x ∈ N, NodeX (Xo X (B.map (·.1))) x.1 x.2 W
theorem fresh4 {P : World → Prop} {w : World} {A0 A1 A2 A3 : Obj} (h : ∀ W, Below w.heap.size w W → W.heap[w.heap.size]? = some A0 → W.heap[w.heap.size + 1]? = some A1 → W.heap[w.heap.size + 2]? = some A2 → W.heap[w.heap.size + 3]? = some A3 → W.heap.size = w.heap.size + 4 → P W) : P ((((w.alloc A0).alloc A1).alloc A2).alloc A3) :=
  fresh3 (P := fun W => P (W.alloc A3)) fun W1 b1 h0 h1 h2 s1 => fresh1 fun W2 b2 hn s2 => h W2 (ret_tr b1 b2) ((b2.block _ (by omega)).trans h0) ((b2.block _ (by omega)).trans h1) ((b2.block _ (by omega)).trans h2) (by rw [s1] at hn; exact hn) (by omega)
theorem code_fresh4 {P : Program} {a : Act} {w : World} {A0 A1 A2 A3 : Obj} {c : Code} {K : Exit → Act → World → Prop} (h : ∀ W, Below w.heap.size w W → W.heap[w.heap.size]? = some A0 → W.heap[w.heap.size + 1]? = some A1 → W.heap[w.heap.size + 2]? = some A2 → W.heap[w.heap.size + 3]? = some A3 → W.heap.size = w.heap.size + 4 → c.wp P K a W) : c.wp P K a ((((w.alloc A0).alloc A1).alloc A2).alloc A3) := fresh4 (P := fun W => c.wp P K a W) h
theorem fresh5 {P : World → Prop} {w : World} {A0 A1 A2 A3 A4 : Obj} (h : ∀ W, Below w.heap.size w W → W.heap[w.heap.size]? = some A0 → W.heap[w.heap.size + 1]? = some A1 → W.heap[w.heap.size + 2]? = some A2 → W.heap[w.heap.size + 3]? = some A3 → W.heap[w.heap.size + 4]? = some A4 → W.heap.size = w.heap.size + 5 → P W) : P (((((w.alloc A0).alloc A1).alloc A2).alloc A3).alloc A4) :=
  fresh4 (P := fun W => P (W.alloc A4)) fun W1 b1 h0 h1 h2 h3 s1 => fresh1 fun W2 b2 hn s2 => h W2 (ret_tr b1 b2) ((b2.block _ (by omega)).trans h0) ((b2.block _ (by omega)).trans h1) ((b2.block _ (by omega)).trans h2) ((b2.block _ (by omega)).trans h3) (by rw [s1] at hn; exact hn) (by omega)
theorem code_fresh5 {P : Program} {a : Act} {w : World} {A0 A1 A2 A3 A4 : Obj} {c : Code} {K : Exit → Act → World → Prop} (h : ∀ W, Below w.heap.size w W → W.heap[w.heap.size]? = some A0 → W.heap[w.heap.size + 1]? = some A1 → W.heap[w.heap.size + 2]? = some A2 → W.heap[w.heap.size + 3]? = some A3 → W.heap[w.heap.size + 4]? = some A4 → W.heap.size = w.heap.size + 5 → c.wp P K a W) : c.wp P K a (((((w.alloc A0).alloc A1).alloc A2).alloc A3).alloc A4) := fresh5 (P := fun W => c.wp P K a W) h
section
variable {X : Nat → Prop} {w W W' : World} {B : List Bl} {G : List (List NodeL × Value)} {N : List (NodeL × Value)}
theorem St.lt (h : St X w B G N W) {x : Bl} (hx : x ∈ B) : x.1 < W.heap.size := (Array.getElem?_eq_some_iff.1 (h.blk x hx).1).1
theorem St.start (hX : Old X w) (hG : ∀ x ∈ G, GivesX X x.1 x.2 w) (hN : ∀ x ∈ N, NodeX X x.1 x.2 w) : St X w [] G N w :=
  ⟨Below.refl _ _, hX, (fun _ h => by cases h), List.nodup_nil, fun x hx => (hG x hx).sub (Y := Xo X []) fun g hg => hg.elim id (fun h => by cases h), fun x hx => (hN x hx).sub (Y := Xo X []) fun g hg => hg.elim id (fun h => by cases h)⟩
theorem St.call (h : St X w B G N W) (hb : Below W.heap.size W W') : St X w B G N W' :=
  ⟨ret_tr h.bel hb, h.old, fun x hx => ⟨(hb.block _ (h.lt hx)).trans (h.blk x hx).1, (h.blk x hx).2⟩, h.nd, fun x hx => (h.gv x hx).keep hb, fun x hx => (h.nv x hx).keep hb⟩
theorem St.oldX (h : St X w B G N W) : Old (Xo X (B.map (·.1))) W := fun g hg => by
  rcases hg with hg | hg
  · exact Nat.lt_of_lt_of_le (h.old g hg) h.bel.size
  · obtain ⟨x, hx, rfl⟩ := List.mem_map.1 hg
    exact h.lt hx
theorem St.news (h : St X w B G N W) (hb : Below W.heap.size W W') (C : List Bl) (hC : ∀ x ∈ C, W'.heap[x.1]? = some (.cells x.2.1 x.2.2 (0, 0)) ∧ W.heap.size ≤ x.1) (hn : (C.map (·.1)).Nodup) : St X w (B ++ C) G N W' := by
  have hY : ∀ g, Xo X ((B ++ C).map (·.1)) g → Xo X (B.map (·.1)) g ∨ W.heap.size ≤ g := fun g hg => by
    rcases hg with hg | hg
    · exact .inl (.inl hg)
    · rw [List.map_append, List.mem_append] at hg
      rcases hg with hg | hg
      · exact .inl (.inr hg)
      · obtain ⟨x, hx, rfl⟩ := List.mem_map.1 hg
        exact .inr (hC x hx).2
  refine ⟨ret_tr h.bel hb, h.old, fun x hx => ?_, ?_, fun x hx => (h.gv x hx).add hb hY, fun x hx => (h.nv x hx).add hb hY⟩
  · rcases List.mem_append.1 hx with hx | hx
    · exact ⟨(hb.block _ (h.lt hx)).trans (h.blk x hx).1, (h.blk x hx).2⟩
    · exact ⟨(hC x hx).1, Nat.le_trans h.bel.size (hC x hx).2⟩
  · rw [List.map_append, List.nodup_append]
    refine ⟨h.nd, hn, fun a ha b hb2 e => ?_⟩
    obtain ⟨x, hx, rfl⟩ := List.mem_map.1 ha
    obtain ⟨y, hy, rfl⟩ := List.mem_map.1 hb2
    have := h.lt hx
    have := (hC y hy).2
    omega
theorem St.new1 (h : St X w B G N W) (hb : Below W.heap.size W W') {cs0 : Array Value} {t0 : TypeId} (h0 : W'.heap[W.heap.size]? = some (.cells cs0 t0 (0, 0))) :
    St X w (B ++ [(W.heap.size, cs0, t0)]) G N W' :=
  h.news hb _ (fun x hx => by
    simp only [List.mem_cons, List.not_mem_nil, or_false] at hx
    rcases hx with rfl
    · exact ⟨h0, Nat.le_refl _⟩) (by simp)
theorem St.new2 (h : St X w B G N W) (hb : Below W.heap.size W W') {cs0 cs1 : Array Value} {t0 t1 : TypeId} (h0 : W'.heap[W.heap.size]? = some (.cells cs0 t0 (0, 0))) (h1 : W'.heap[W.heap.size + 1]? = some (.cells cs1 t1 (0, 0))) :
    St X w (B ++ [(W.heap.size, cs0, t0), (W.heap.size + 1, cs1, t1)]) G N W' :=
  h.news hb _ (fun x hx => by
    simp only [List.mem_cons, List.not_mem_nil, or_false] at hx
    rcases hx with rfl | rfl
    · exact ⟨h0, Nat.le_refl _⟩
    · exact ⟨h1, Nat.le_add_right _ _⟩) (by simp)
theorem St.new3 (h : St X w B G N W) (hb : Below W.heap.size W W') {cs0 cs1 cs2 : Array Value} {t0 t1 t2 : TypeId} (h0 : W'.heap[W.heap.size]? = some (.cells cs0 t0 (0, 0))) (h1 : W'.heap[W.heap.size + 1]? = some (.cells cs1 t1 (0, 0))) (h2 : W'.heap[W.heap.size + 2]? = some (.cells cs2 t2 (0, 0))) :
    St X w (B ++ [(W.heap.size, cs0, t0), (W.heap.size + 1, cs1, t1), (W.heap.size + 2, cs2, t2)]) G N W' :=
  h.news hb _ (fun x hx => by
    simp only [List.mem_cons, List.not_mem_nil, or_false] at hx
    rcases hx with rfl | rfl | rfl
    · exact ⟨h0, Nat.le_refl _⟩
    · exact ⟨h1, Nat.le_add_right _ _⟩
    · exact ⟨h2, Nat.le_add_right _ _⟩) (by simp)
theorem St.new4 (h : St X w B G N W) (hb : Below W.heap.size W W') {cs0 cs1 cs2 cs3 : Array Value} {t0 t1 t2 t3 : TypeId} (h0 : W'.heap[W.heap.size]? = some (.cells cs0 t0 (0, 0))) (h1 : W'.heap[W.heap.size + 1]? = some (.cells cs1 t1 (0, 0))) (h2 : W'.heap[W.heap.size + 2]? = some (.cells cs2 t2 (0, 0))) (h3 : W'.heap[W.heap.size + 3]? = some (.cells cs3 t3 (0, 0))) :
    St X w (B ++ [(W.heap.size, cs0, t0), (W.heap.size + 1, cs1, t1), (W.heap.size + 2, cs2, t2), (W.heap.size + 3, cs3, t3)]) G N W' :=
  h.news hb _ (fun x hx => by
    simp only [List.mem_cons, List.not_mem_nil, or_false] at hx
    rcases hx with rfl | rfl | rfl | rfl
    · exact ⟨h0, Nat.le_refl _⟩
    · exact ⟨h1, Nat.le_add_right _ _⟩
    · exact ⟨h2, Nat.le_add_right _ _⟩
    · exact ⟨h3, Nat.le_add_right _ _⟩) (by simp)
theorem St.new5 (h : St X w B G N W) (hb : Below W.heap.size W W') {cs0 cs1 cs2 cs3 cs4 : Array Value} {t0 t1 t2 t3 t4 : TypeId} (h0 : W'.heap[W.heap.size]? = some (.cells cs0 t0 (0, 0))) (h1 : W'.heap[W.heap.size + 1]? = some (.cells cs1 t1 (0, 0))) (h2 : W'.heap[W.heap.size + 2]? = some (.cells cs2 t2 (0, 0))) (h3 : W'.heap[W.heap.size + 3]? = some (.cells cs3 t3 (0, 0))) (h4 : W'.heap[W.heap.size + 4]? = some (.cells cs4 t4 (0, 0))) :
    St X w (B ++ [(W.heap.size, cs0, t0), (W.heap.size + 1, cs1, t1), (W.heap.size + 2, cs2, t2), (W.heap.size + 3, cs3, t3), (W.heap.size + 4, cs4, t4)]) G N W' :=
  h.news hb _ (fun x hx => by
    simp only [List.mem_cons, List.not_mem_nil, or_false] at hx
    rcases hx with rfl | rfl | rfl | rfl | rfl
    · exact ⟨h0, Nat.le_refl _⟩
    · exact ⟨h1, Nat.le_add_right _ _⟩
    · exact ⟨h2, Nat.le_add_right _ _⟩
    · exact ⟨h3, Nat.le_add_right _ _⟩
    · exact ⟨h4, Nat.le_add_right _ _⟩) (by simp)
theorem St.at (h : St X w B G N W) (k : Nat) {b : Nat} {cs : Array Value} {t : TypeId} (hk : B[k]? = some (b, cs, t)) : W.heap[b]? = some (.cells cs t (0, 0)) := (h.blk _ (List.mem_of_getElem? hk)).1
theorem St.own (h : St X w B G N W) (k : Nat) {b : Nat} {cs : Array Value} {t : TypeId} (hk : B[k]? = some (b, cs, t)) : w.heap.size ≤ b ∧ b < W.heap.size := ⟨(h.blk _ (List.mem_of_getElem? hk)).2, h.lt (List.mem_of_getElem? hk)⟩
theorem map_set_same {L : List Bl} {k b : Nat} {cs cs' : Array Value} {t : TypeId} (hk : L[k]? = some (b, cs, t)) : (L.set k (b, cs', t)).map (·.1) = L.map (·.1) := by
  apply List.ext_getElem?
  intro j
  rw [List.getElem?_map, List.getElem?_map, List.getElem?_set]
  by_cases e : k = j
  · subst e
    rw [if_pos rfl, hk]
    have := (List.getElem?_eq_some_iff.1 hk).1
    rw [if_pos this]
    rfl
  · rw [if_neg e]
theorem St.set (h : St X w B G N W) (k : Nat) {b : Nat} {cs cs' : Array Value} {t : TypeId} (hk : B[k]? = some (b, cs, t)) (hb : Below b W W') (hg : ∀ g, g ≠ b → W'.heap[g]? = W.heap[g]?) (hs : W'.heap.size = W.heap.size) (hn : W'.heap[b]? = some (.cells cs' t (0, 0))) :
    St X w (B.set k (b, cs', t)) G N W' := by
  have hm := map_set_same (cs' := cs') hk
  have hkl := (List.getElem?_eq_some_iff.1 hk).1
  have hXb : Xo X (B.map (·.1)) b := .inr (List.mem_map.2 ⟨_, List.mem_of_getElem? hk, rfl⟩)
  have hwb := (h.own k hk).1
  refine ⟨h.bel.trans (hb.mono hwb), h.old, fun x hx => ?_, by rw [hm]; exact h.nd, fun x hx => by rw [hm]; exact (h.gv x hx).other hXb hs hg, fun x hx => by rw [hm]; exact (h.nv x hx).other hXb hs hg⟩
  obtain ⟨j, hj⟩ := List.mem_iff_getElem?.1 hx
  rw [List.getElem?_set] at hj
  by_cases e : k = j
  · subst e
    rw [if_pos rfl, if_pos hkl] at hj
    obtain rfl := Option.some.inj hj
    exact ⟨hn, hwb⟩
  · rw [if_neg e] at hj
    have hne : x.1 ≠ b := fun e2 => by
      have h1 : (B.map (·.1))[k]? = some b := by rw [List.getElem?_map, hk]; rfl
      have h2 : (B.map (·.1))[j]? = some b := by rw [List.getElem?_map, hj, ← e2]; rfl
      have hkl' : k < (B.map (·.1)).length := by simpa using hkl
      exact e ((List.getElem?_inj hkl' h.nd).1 (h1.trans h2.symm))
    exact ⟨(hg _ hne).trans (h.blk x (List.mem_of_getElem? hj)).1, (h.blk x (List.mem_of_getElem? hj)).2⟩
theorem St.addG (h : St X w B G N W) {l : List NodeL} {v : Value} (hg : GivesX (Xo X (B.map (·.1))) l v W) : St X w B (G ++ [(l, v)]) N W :=
  ⟨h.bel, h.old, h.blk, h.nd, fun x hx => by
    rcases List.mem_append.1 hx with hx | hx
    · exact h.gv x hx
    · rw [List.mem_singleton] at hx; subst hx; exact hg, h.nv⟩
theorem St.addN (h : St X w B G N W) {n : NodeL} {v : Value} (hn : NodeX (Xo X (B.map (·.1))) n v W) : St X w B G (N ++ [(n, v)]) W :=
  ⟨h.bel, h.old, h.blk, h.nd, h.gv, fun x hx => by
    rcases List.mem_append.1 hx with hx | hx
    · exact h.nv x hx
    · rw [List.mem_singleton] at hx; subst hx; exact hn⟩
theorem St.less (h : St X w B G N W) {G' : List (List NodeL × Value)} {N' : List (NodeL × Value)} (hG : ∀ x ∈ G', x ∈ G) (hN : ∀ x ∈ N', x ∈ N) : St X w B G' N' W :=
  ⟨h.bel, h.old, h.blk, h.nd, fun x hx => h.gv x (hG x hx), fun x hx => h.nv x (hN x hx)⟩
theorem St.g (h : St X w B G N W) (k : Nat) {l : List NodeL} {v : Value} (hk : G[k]? = some (l, v)) : GivesX (Xo X (B.map (·.1))) l v W := h.gv _ (List.mem_of_getElem? hk)
theorem St.n (h : St X w B G N W) (k : Nat) {n : NodeL} {v : Value} (hk : N[k]? = some (n, v)) : NodeX (Xo X (B.map (·.1))) n v W := h.nv _ (List.mem_of_getElem? hk)
theorem St.gX (h : St X w B G N W) (k : Nat) {l : List NodeL} {v : Value} (hk : G[k]? = some (l, v)) : GivesX X l v W := (h.g k hk).sub fun _ hg => .inl hg
theorem St.nX (h : St X w B G N W) (k : Nat) {n : NodeL} {v : Value} (hk : N[k]? = some (n, v)) : NodeX X n v W := (h.n k hk).sub fun _ hg => .inl hg
end
end Go.Proofs.YtpmhmippoefcfaaGreatDoor
namespace Go.Proofs.YtpmhmippoefcfaaGreatDoor
def PartOk (q : Str) : Prop := q ≠ [] ∧ q.length ≤ 12 ∧ (47 : UInt8) ∉ q ∧ (0 : UInt8) ∉ q
theorem parts_no47 : ∀ (n : Nat) (p : Str), p.length ≤ n → ∀ q ∈ parts p, (47 : UInt8) ∉ q := by
  intro n
  induction n with
  | zero =>
    intro p h q hq
    obtain rfl := List.eq_nil_of_length_eq_zero (Nat.le_zero.1 h)
    rw [parts_nil] at hq
    cases hq
  | succ n ih =>
    intro p h q hq
    by_cases hm : (47 : UInt8) ∈ p
    · obtain ⟨a, b, rfl⟩ := List.append_of_mem hm
      rw [List.length_append, List.length_cons] at h
      rw [parts_app] at hq
      rcases List.mem_append.1 hq with hq | hq
      · exact ih a (by omega) q hq
      · exact ih b (by omega) q hq
    · by_cases hp : p = []
      · subst hp; rw [parts_nil] at hq; cases hq
      · rw [parts_one hm hp] at hq
        obtain rfl := List.mem_singleton.1 hq
        exact hm
theorem parts_sub (p : Str) (c : UInt8) (q : Str) (hq : q ∈ parts p) (hc : c ∈ q) : c ∈ p := by
  unfold parts at hq
  obtain ⟨s, _, rfl⟩ := List.mem_map.1 hq
  unfold cutS at hc
  exact List.mem_of_mem_take (List.mem_of_mem_drop hc)
theorem parts_ok {p : Str} (h : checkE p = 0) : ∀ q ∈ parts p, PartOk q := by
  intro q hq
  obtain ⟨_, _, h0, h12⟩ := check_zero h
  exact ⟨parts_ne p q hq, h12 q hq, parts_no47 _ p (Nat.le_refl _) q hq, fun h => h0 (parts_sub p 0 q hq h)⟩
theorem part_legal {q : Str} (h : PartOk q) (h1 : q ≠ [46]) (h2 : q ≠ [46, 46]) : legalL q = 0 := by
  obtain ⟨a, b, c, d⟩ := h
  unfold legalL
  rw [if_neg, if_neg (by omega)]
  rintro (e | e | e | e)
  · exact a e
  · exact h1 e
  · exact h2 e
  · obtain ⟨x, hx, hb⟩ := List.any_eq_true.1 e
    unfold barredL at hb
    simp only [Bool.or_eq_true, beq_iff_eq] at hb
    rcases hb with rfl | rfl
    · exact c hx
    · exact d hx
theorem part_go (l : List NodeL) (who : Int) (follow slash : Bool) : ∀ i ps hops, (∀ q ∈ ps, PartOk q) → (goW l who follow slash i ps hops).2 = 0 → (goW l who follow slash i ps hops).1.name = [] ∨ PartOk (goW l who follow slash i ps hops).1.name := by
  refine go_ind l who follow slash (fun i ps hops R => (∀ q ∈ ps, PartOk q) → R.2 = 0 → R.1.name = [] ∨ PartOk R.1.name) ?_ ?_ ?_ ?_ ?_ ?_ ?_ ?_ ?_ ?_ ?_
  · intro i hops _ _; exact .inl rfl
  · intro i hops p rest hd _ he; exact absurd he hd
  · intro i hops p rest _ _ _ he; cases he
  · intro i hops p _ _ _ hp _; exact .inr (hp p (by simp))
  · intro i hops p rest _ _ _ _ _ he; cases he
  · intro i hops p rest _ _ _ _ _ _ _ he; cases he
  · intro i hops p rest _ _ _ _ _ _ hx _ he; exact absurd he hx
  · intro i hops p rest R _ _ _ _ _ _ hx ih hp he
    refine ih (fun q hq => ?_) he
    rcases List.mem_append.1 hq with hq | hq
    · exact parts_ok hx q hq
    · exact hp q (by simp [hq])
  · intro i hops p _ _ _ _ _ _ _ he; cases he
  · intro i hops p _ _ _ _ _ hp _; exact .inr (hp p (by simp))
  · intro i hops p rest R _ _ _ _ _ ih hp he; exact ih (fun q hq => hp q (by simp [hq])) he
theorem part_walk (l : List NodeL) (who fr : Int) (p : Str) (f : Bool) (h : (walkL l who fr p f).2 = 0) : (walkL l who fr p f).1.name = [] ∨ PartOk (walkL l who fr p f).1.name := by
  unfold walkL at h ⊢
  split at h
  · rename_i hc; exact absurd h hc
  · rename_i hc
    rw [if_neg hc]
    have hc' := Decidable.not_not.1 hc
    split at h
    · rename_i hp
      rw [if_pos hp]
      split at h
      · rename_i hd; exact absurd h hd
      · rename_i hd
        rw [if_neg hd]
        exact .inl rfl
    · rename_i hp
      rw [if_neg hp]
      exact part_go l who f _ _ _ _ (parts_ok hc') h
/-- A spot that a way has come to. -/
def SpotW (l : List NodeL) (s : SpotL) : Prop := SpotOk l s ∧ (s.name = [] ∨ PartOk s.name)
theorem walk_spot {l : List NodeL} (hr : RightP l) {who fr : Int} {p : Str} {f : Bool} (h : (walkL l who fr p f).2 = 0) : SpotW l (walkL l who fr p f).1 := ⟨law_spot hr who fr p f h, part_walk l who fr p f h⟩
theorem spot_dir {l : List NodeL} {s : SpotL} (h : SpotW l s) : ∃ d : Nat, s.dir = d ∧ (nd l d).kind = 2 := by
  obtain ⟨hg, hk⟩ := dir_got h.1.1
  obtain ⟨d, e, _, h0⟩ := got_nat hg
  refine ⟨d, e, ?_⟩
  rw [e, nodeL_nd h0] at hk
  exact hk
/-- The dots are there. -/
theorem spot_dots {l : List NodeL} (hr : RightP l) {s : SpotL} (h : SpotW l s) (hd : dotsB s.name = true) : gotB l s.ino = true ∧ (nodeL l s.ino).kind = 2 := by
  unfold dotsB at hd
  simp only [Bool.or_eq_true, decide_eq_true_iff] at hd
  have h0 := h.1.1
  rcases hd with (hd | hd) | hd
  · rw [h.1.2.1 hd]; exact dir_got h0
  · have : s.ino = s.dir := by rw [h.1.2.2 (by rw [hd]; simp), hd]; rfl
    rw [this]; exact dir_got h0
  · have : s.ino = (nodeL l s.dir).up := by rw [h.1.2.2 (by rw [hd]; simp), hd]; rfl
    rw [this]; exact dir_got (right_up hr h0)
theorem spot_look {l : List NodeL} {s : SpotL} (h : SpotW l s) (hd : dotsB s.name = false) : legalL s.name = 0 ∧ s.ino = (findL (nodeL l s.dir).names s.name).getD (-1) := by
  unfold dotsB at hd
  simp only [Bool.or_eq_false_iff, decide_eq_false_iff_not] at hd
  obtain ⟨⟨h0, h1⟩, h2⟩ := hd
  refine ⟨part_legal (h.2.resolve_left h0) h1 h2, ?_⟩
  rw [h.1.2.2 h0]
  unfold lookL
  rw [if_neg h1, if_neg h2]
theorem Rig.of {l : List NodeL} (h : RightP l) : Rig l ∧ 0 < l.length := by
  obtain ⟨most, room, h⟩ := h
  obtain ⟨a, b, _⟩ := (right_iff l most room).1 h
  exact ⟨a, b⟩
/-- A spot whose name names none. -/
theorem spot_new {l : List NodeL} (hr : RightP l) {s : SpotL} (h : SpotW l s) (hn : s.ino < 0) {d : Nat} (hd : s.dir = d) (hk : (nd l d).kind = 2) : legalL s.name = 0 ∧ findL (nd l d).names s.name = none ∧ s.ino = -1 := by
  have h1 : dotsB s.name = false := by
    cases hb : dotsB s.name with
    | false => rfl
    | true => have := got_le (spot_dots hr h hb).1; omega
  obtain ⟨h2, h3⟩ := spot_look h h1
  rw [hd, nodeL_nd (by rw [hk]; decide)] at h3
  refine ⟨h2, ?_⟩
  cases hf : findL (nd l d).names s.name with
  | none => rw [hf] at h3; exact ⟨rfl, h3⟩
  | some i =>
    rw [hf] at h3
    obtain ⟨j, e, _, _⟩ := (Rig.of hr).1.nam d _ (findL_mem hf)
    simp only [Option.getD_some] at h3 e
    omega
/-- A spot whose name names a node. -/
theorem spot_old {l : List NodeL} (hr : RightP l) {s : SpotL} (h : SpotW l s) (hn : 0 ≤ s.ino) (hdt : dotsB s.name = false) {d : Nat} (hd : s.dir = d) (hk : (nd l d).kind = 2) : legalL s.name = 0 ∧ ∃ y : Nat, s.ino = y ∧ findL (nd l d).names s.name = some (y : Int) ∧ y ≠ 0 ∧ (nd l y).kind ≠ 0 := by
  obtain ⟨h2, h3⟩ := spot_look h hdt
  rw [hd, nodeL_nd (by rw [hk]; decide)] at h3
  refine ⟨h2, ?_⟩
  cases hf : findL (nd l d).names s.name with
  | none =>
    rw [hf] at h3
    simp only [Option.getD_none] at h3
    omega
  | some i =>
    rw [hf] at h3
    obtain ⟨j, e, h4, h5⟩ := (Rig.of hr).1.nam d _ (findL_mem hf)
    simp only [Option.getD_some] at h3 e
    subst e
    exact ⟨j, h3, rfl, h4, h5⟩
theorem setL_nat {l : List NodeL} {k : Nat} (h : k < l.length) (n : NodeL) : setL l (k : Int) n = l.set k n := by
  unfold setL
  rw [if_pos (nat_in h), Int.toNat_natCast]
end Go.Proofs.YtpmhmippoefcfaaGreatDoor
namespace Go.Proofs.YtpmhmippoefcfaaGreatDoor
theorem nd_map_set {l : List NodeL} {k : Nat} (h : k < l.length) (n : NodeL) (h1 : n.kind = (nd l k).kind) (h2 : n.up = (nd l k).up) (j : Nat) : (nd (l.set k n) j).kind = (nd l j).kind ∧ (nd (l.set k n) j).up = (nd l j).up := by
  rw [nd_set h]
  split
  · rename_i e; subst e; exact ⟨h1, h2⟩
  · exact ⟨rfl, rfl⟩
theorem Rig.sorted {l : List NodeL} {E : Nat → Prop} (h : RigE l E) (k : Nat) : SortedP (nd l k).names := by
  by_cases hk : (nd l k).kind = 0
  · rw [h.zero k hk]; exact sorted_nil
  · exact (h.loc k hk).2.2.2
/-- A name is put where there was none, for a node that is left out. -/
theorem put_name {l : List NodeL} {E : Nat → Prop} (h : RigE l E) {d x : Nat} (hd : (nd l d).kind = 2) {nm : Nm} (hl : legalL nm = 0) (hf : findL (nd l d).names nm = none) (hx : E x) (hx0 : x ≠ 0) (hxk : (nd l x).kind ≠ 0) (hz : d ≠ 0 → ¬ E d → cnt l d ≠ 0) :
    RigE (l.set d (putN (nd l d) nm x)) E := by
  have hs := Rig.sorted h d
  refine h.names d hd (putL (nd l d).names (nm, (x : Int))) E (fun _ h => h) (sorted_put hs _ hl) (fun e he => ?_) (fun j hj => ?_) fun h0 h1 h2 => absurd h2 (hz h0 h1)
  · unfold putL at he
    rcases List.mem_append.1 he with he | he
    · exact h.nam d e (mem_lo.1 he).1
    · rcases List.mem_cons.1 he with rfl | he
      · exact ⟨x, rfl, hx0, hxk⟩
      · exact h.nam d e (mem_hi.1 he).1
  · have := cntN_put hs.2 hf x j
    rw [if_neg (by intro e; exact hj (by have : j = x := by omega
                                         rw [this]; exact hx))] at this
    exact this
theorem put_facts {l : List NodeL} {d x : Nat} (hs : SortedP (nd l d).names) (hd : (nd l d).kind = 2) {nm : Nm} (hf : findL (nd l d).names nm = none) :
    (∀ j, nd (l.set d (putN (nd l d) nm x)) j = if j = d then putN (nd l d) nm x else nd l j) ∧ (∀ j : Nat, cnt (l.set d (putN (nd l d) nm x)) j = cnt l j + if x = j then 1 else 0) ∧ (∀ j, (nd (l.set d (putN (nd l d) nm x)) j).kind = (nd l j).kind ∧ (nd (l.set d (putN (nd l d) nm x)) j).up = (nd l j).up)
      ∧ 0 < cntN (nd (l.set d (putN (nd l d) nm x)) d).names x := by
  have hlt : d < l.length := nd_kind (by rw [hd]; decide)
  refine ⟨nd_set hlt _, fun j => ?_, nd_map_set hlt (putN (nd l d) nm x) rfl rfl, ?_⟩
  · have h1 := cnt_set hlt (putN (nd l d) nm x) j
    have h2 : cntN (putN (nd l d) nm x).names j = cntN (nd l d).names j + if (x : Int) = j then 1 else 0 := cntN_put hs.2 hf x j
    by_cases hx : x = j
    · subst hx; rw [if_pos rfl] at h2 ⊢; omega
    · rw [if_neg (by omega)] at h2; rw [if_neg hx]; omega
  · rw [nd_set hlt, if_pos rfl]
    have h2 : cntN (putN (nd l d) nm x).names x = cntN (nd l d).names x + if (x : Int) = x then 1 else 0 := cntN_put hs.2 hf x x
    rw [if_pos rfl] at h2
    omega
end Go.Proofs.YtpmhmippoefcfaaGreatDoor
namespace Go.Proofs.YtpmhmippoefcfaaGreatDoor
theorem Rig.all {l : List NodeL} (h : Rig l) (E : Nat → Prop) : RigE l E := h.less fun _ h => absurd h id
end Go.Proofs.YtpmhmippoefcfaaGreatDoor
namespace Go.Proofs.YtpmhmippoefcfaaGreatDoor
/-- No way comes to a node whose way up leads to itself. -/
theorem Rooted.self {l : List NodeL} {x : Nat} (hx : x ≠ 0) (h : (nd l x).up = x) {j : Int} (hr : Rooted l j) : j ≠ x := by
  induction hr with
  | root => omega
  | up k hk _ ih =>
    intro e
    have : k = x := by omega
    subst this
    exact ih h
/-- Where the directory of one name is. -/
theorem up_holder {l : List NodeL} {E : Nat → Prop} (h : RigE l E) {d x : Nat} {nm : Nm} (hf : findL (nd l d).names nm = some (x : Int)) (hx0 : x ≠ 0) (hxE : ¬ E x) (hxk : (nd l x).kind = 2) : (nd l x).up = d ∧ x ≠ d ∧ cnt l x = 1 := by
  have hs := Rig.sorted h d
  have h1 := cntN_drop hs.2 hf x
  rw [if_pos rfl] at h1
  have h2 := cnt_ge (l := l) d x
  obtain ⟨a, ⟨u, b, c⟩, e⟩ := ((h.nmd x hx0 hxE (by rw [hxk]; decide)).2.2 hxk).2 (by omega)
  have hu : u = d := Decidable.byContradiction fun hne => by
    have := cnt_ge2 (l := l) hne x
    omega
  subst hu
  refine ⟨b, fun hxd => ?_, a⟩
  exact Rooted.self hx0 (by rw [b, hxd]) e rfl
/-- What holds of two spots of which one takes the other one's place. -/
structure MoveN (l : List NodeL) (s t : SpotL) (d1 d2 x : Nat) : Prop where
  sd : s.dir = d1
  sk : (nd l d1).kind = 2
  si : s.ino = x
  sf : findL (nd l d1).names s.name = some (x : Int)
  x0 : x ≠ 0
  xk : (nd l x).kind ≠ 0
  td : t.dir = d2
  tk : (nd l d2).kind = 2
  tl : legalL t.name = 0
  tn : t.ino < 0 → findL (nd l d2).names t.name = none
  ty : ∀ y : Nat, t.ino = y → findL (nd l d2).names t.name = some (y : Int) ∧ y ≠ 0 ∧ (nd l y).kind ≠ 0 ∧ y ≠ x ∧ (if (nd l x).kind = 2 then (nd l y).kind = 2 ∧ (nd l y).names = [] else (nd l y).kind ≠ 2)
  lk : 1 ≤ (nd l d2).links
  bn : (nd l x).kind = 2 → beneathL l (l.length + 1) d2 x = false
theorem move_of {l : List NodeL} (hr : RightP l) {who1 who2 : Int} {s t : SpotL} (hs : SpotW l s) (ht : SpotW l t) (hsi : 0 ≤ s.ino) (hE : renameE l who1 who2 s t = 0) : ∃ d1 d2 x : Nat, MoveN l s t d1 d2 x := by
  obtain ⟨d1, e1, k1⟩ := spot_dir hs
  obtain ⟨d2, e2, k2⟩ := spot_dir ht
  unfold renameE at hE
  split at hE
  · cases hE
  · rename_i hdt
    have hds : dotsB s.name = false := by
      cases hb : dotsB s.name with
      | false => rfl
      | true => exact absurd (.inl hb) hdt
    have hdtt : dotsB t.name = false := by
      cases hb : dotsB t.name with
      | false => rfl
      | true => exact absurd (.inr hb) hdt
    split at hE
    · cases hE
    · split at hE
      · cases hE
      · rename_i _ hne
        obtain ⟨_, x, hx, hxf, hx0, hxk⟩ := spot_old hr hs hsi hds e1 k1
        unfold overE at hE
        rw [e2, nodeL_nd (by rw [k2]; decide), hx, nodeL_nd hxk] at hE
        split at hE
        · cases hE
        · rename_i hlk
          have htl := (spot_look ht hdtt).1
          have hcase : (∀ y : Nat, t.ino = y → (if (nd l x).kind = 2 then (nd l y).kind = 2 ∧ (nd l y).names = [] else (nd l y).kind ≠ 2)) ∧ ((nd l x).kind = 2 → beneathL l (l.length + 1) d2 x = false) := by
            split at hE
            · rename_i hx2
              split at hE
              · cases hE
              · rename_i hb
                split at hE
                · cases hE
                · rename_i hc1
                  split at hE
                  · cases hE
                  · rename_i hc2
                    refine ⟨fun y hy => ?_, fun _ => Bool.not_eq_true _ ▸ hb⟩
                    rw [if_pos hx2]
                    obtain ⟨_, y', hy', _, _, hyk⟩ := spot_old hr ht (by omega) hdtt e2 k2
                    have : y' = y := by omega
                    subst this
                    have hg := (got_nd l y').2 hyk
                    rw [hy, nodeL_nd hyk] at hc1 hc2
                    exact ⟨Decidable.byContradiction fun h => hc1 ⟨hg, h⟩, Decidable.byContradiction fun h => hc2 ⟨hg, h⟩⟩
            · rename_i hx2
              refine ⟨fun y hy => ?_, fun h => absurd h hx2⟩
              rw [if_neg hx2]
              obtain ⟨_, y', hy', _, _, hyk⟩ := spot_old hr ht (by omega) hdtt e2 k2
              have : y' = y := by omega
              subst this
              have hg := (got_nd l y').2 hyk
              split at hE
              · cases hE
              · rename_i hc
                rw [hy, nodeL_nd hyk] at hc
                exact fun h => hc ⟨hg, h⟩
          refine ⟨d1, d2, x, e1, k1, hx, hxf, hx0, hxk, e2, k2, htl, fun hn => (spot_new hr ht hn e2 k2).2.1, fun y hy => ?_, by omega, hcase.2⟩
          obtain ⟨_, y', hy', hyf, hy0, hyk⟩ := spot_old hr ht (by omega) hdtt e2 k2
          have : y' = y := by omega
          subst this
          exact ⟨hyf, hy0, hyk, fun e => hne (by rw [hx, hy', e]), hcase.1 y' hy⟩
end Go.Proofs.YtpmhmippoefcfaaGreatDoor
namespace Go.Proofs.YtpmhmippoefcfaaGreatDoor
theorem right_RP {l : List NodeL} {most room : Int} (h : rightR l most room = true) : RightP l := ⟨most, room, h⟩
end Go.Proofs.YtpmhmippoefcfaaGreatDoor
