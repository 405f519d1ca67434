/-
  The program's Put and Drop of entries, in memory of their own. The document's Make, Mkdir, Symlink, Chmod. The program's put, drop, Settle, six, find, findThere. The statements' small functions: are all texts short? Disks that a change gives may be changed again; the example of the statements on changes, plainly.
-/
import Derived.RangeFuncNested
import Derived.RangeFuncBound
import Derived.RangeFuncCalls
import Derived.RangeFuncLeaves
import Derived.RangeFuncBox
import Derived.Shelf.Abstract
import Derived.Shelf.RegionOpen
import Derived.WalkKit
import Derived.OwnWalkIn
import Derived.TacticsInMore
import Derived.LoopNIn
import Derived.LoopIn
import Derived.Lib.Hide
import Derived.Outline
import Derived.Deep.QuietTactic
import Derived.Deep.AppendLies
import Derived.BigQuiet
import Derived.Lib.Strings
import Derived.WalkSmall
import Derived.Shelf.Small.Strs
import Derived.Shelf.Strings.Search1
import Derived.Shelf.Strings.Prefix
import Derived.Laws.AppendOwn
import Derived.Laws.OwnMore
import Derived.Laws.AppendOwnNone
import Derived.WideShapes
import Derived.Lib.TrimByte
import Derived.Lib.Bytealg
import Derived.Laws.BitsLemmas
import Derived.Laws.RangeAny
import Derived.Laws.Runes
import Derived.Lib.Builder
import Derived.Deep.WholeRow
import Derived.WalkMore
import Derived.Lib.OthersKept
import Derived.Lib.QuietBelow
import Derived.Deep.DrawnRows
import Derived.Laws.Cover1
import Derived.Shelf.SlSorted.Search
import Derived.Shelf.Spec.SlicesGrow
import Derived.StillTailTactics
import Derived.Deep.RegionHeld3
import Derived.Deep.RegionLaw
import Derived.Handy
import Derived.Laws.IdiomCopy
import Derived.Lib.SliceRun
import Derived.Laws.ResultCell
import Derived.Deep.DeepCutAuto
import Derived.LaidEql
import Derived.Stop.Asserts
import Derived.RowKitTokens
import Derived.Deep.LoopGhost
import Derived.Deep.MidRow
import Derived.BigRegion
import Derived.Test.YtpmhmippoefcfaaGreatDoorProg
import Derived.Test.YtpmhmippoefcfaaGreatDoorShelf
import Derived.Test.YtpmhmippoefcfaaGreatDoorB01
import Derived.Test.YtpmhmippoefcfaaGreatDoorB02
import Derived.Test.YtpmhmippoefcfaaGreatDoorB04
import Derived.Test.YtpmhmippoefcfaaGreatDoorB05
import Derived.Test.YtpmhmippoefcfaaGreatDoorB06
import Derived.Test.YtpmhmippoefcfaaGreatDoorB07
import Derived.Test.YtpmhmippoefcfaaGreatDoorB08
import Derived.Test.YtpmhmippoefcfaaGreatDoorB09
import Derived.Test.YtpmhmippoefcfaaGreatDoorB10
import Derived.Test.YtpmhmippoefcfaaGreatDoorB12
import Derived.Test.YtpmhmippoefcfaaGreatDoorB13
import Derived.Test.YtpmhmippoefcfaaGreatDoorB14
import Derived.Test.YtpmhmippoefcfaaGreatDoorB16
namespace Go.Proofs.YtpmhmippoefcfaaGreatDoor
open Go.RowKit Go.Shelf
attribute [local go_sem ↓] Go.wp_at_zero Go.wp_at_succ
set_option maxRecDepth 100000 in
set_option maxHeartbeats 4000000 in
theorem concatX_any (b off cap : Nat) (S : List Src) (w : World) (hb : b < w.heap.size) (hS : SrcOk w.heap.size b off S w) (hs : ∀ x ∈ S, x.2.length ≤ 10001) (h3 : S.length ≤ 3) :
    Calls Tryz.prog 135 #[.slice (some ⟨b, off, none⟩) S.length cap] w fun e w' => GivesEN (allL S) e w w' := by
  obtain ⟨i0, hi0, hz0, hz1, hz2⟩ := info_parts infoEnt
  have HS := Lib.hid hS
  have HL := Lib.hid (allL_len S hs h3)
  clear hS hs
  go_enter Tryz.func135, Tryz.ntmps135
  go_wp2_with fail
  go_loop [3, 11] (fun z i => ∃ k : Nat, i = .int .i64 k ∧ k ≤ S.length ∧ z = .int .i64 (allL (S.take k)).length) (fun _ i => S.length - (intOf i).toNat)
  case atStart => exact ⟨0, rfl, Nat.zero_le _, rfl⟩
  case round =>
    obtain ⟨k, rfl, hk, rfl⟩ := hrel
    have hkl := HL.out k
    by_cases hlt : k < S.length
    · obtain ⟨hc0, hr⟩ := HS.out k hlt
      have hl1 : Hid ((allL (S.take (k + 1))).length = (allL (S.take k)).length + S[k].2.length) := Lib.hid (by rw [allL_succ S k hlt, List.length_append])
      have hkl1 := HL.out (k + 1)
      rw [hl1.out] at hkl1
      obtain ⟨ao, cap', e, _, _⟩ := hr.form
      rw [e] at hc0
      clear e hr
      generalize (allL (S.take k)).length = z at *
      generalize S[k].2.length = y at *
      go_wp2_with fail
      go_round
      case rel => exact ⟨k + 1, by go_num, hlt, by rw [hl1.out]; go_num⟩
      case measure => simp [intOf]; omega
    · have hke : k = S.length := by omega
      have HT : Hid (S.take k = S) := Lib.hid (by rw [hke, List.take_length])
      have hI2 : decide (k < S.length) = false := by simp; omega
      rw [HT.out] at hkl ⊢
      clear hke hlt
      go_wp2_with fail
      refine (grow_any (allL S).length (by omega) _).mono ?_
      rintro e w1 ⟨v, rfl, hown, hb1⟩
      have HO := Lib.hid hown
      have HB := Lib.hid hb1
      clear hown hb1
      go_wp2_with fail
      go_loopw [6, 27] (fun o i wr => ∃ k : Nat, i = .int .i64 k ∧ k ≤ S.length ∧ wr.ownsRow w.heap.size 131 2 o (allL (S.take k)).length (ents (allL (S.take k))) ∧ Below w.heap.size w wr) (fun _ i _ => S.length - (intOf i).toNat)
      case atStart => exact ⟨0, rfl, Nat.zero_le _, HO.out, HB.out⟩
      case round =>
        obtain ⟨k, rfl, hk, hown, hBr⟩ := hrel
        have sB := hBr.size
        by_cases hlt : k < S.length
        · obtain ⟨hc0, hr⟩ := HS.out k hlt
          have hc1 := (hBr.cell (p := ⟨b, off + k, none⟩) hb).trans hc0
          have hl1 : Hid ((allL (S.take (k + 1))).length = (allL (S.take k)).length + S[k].2.length) := Lib.hid (by rw [allL_succ S k hlt, List.length_append])
          have he1 : Hid (ents (allL (S.take (k + 1))) = ents (allL (S.take k)) ++ ents S[k].2) := Lib.hid (by rw [allL_succ S k hlt, ents_app])
          have hkl1 := HL.out (k + 1)
          rw [hl1.out] at hkl1
          have hr1 := Lib.hid (hr.below hBr)
          obtain ⟨ao, cap', e, _, _⟩ := hr.form
          rw [e] at hc1 hr1
          clear e hr hc0
          generalize (allL (S.take k)).length = z at *
          generalize S[k].2.length = y at *
          go_wp2_with (at_builtin; go_loud (refine wpList_append_rd rfl (.tmp 31) (.tmp 32) 61 rfl w.heap.size 131 i0 _ 2 24 Tryz.underlying61 hi0 hz0 hz1 hz2 rfl (by decide) _ z _ rfl hown w.heap.size _ y (ents S[k].2) rfl hr1.out (ents_one _) (by unfold maxLen; omega) (by omega) sB ?_))
          intro v3 w3 ho3 hgr3
          have hB3 : Below w.heap.size w w3 := hBr.grown hgr3 sB (fun j ej => (hown.lt j ej).1)
          rw [← he1.out, ← hl1.out] at ho3
          go_wp2_with fail
          go_roundw
          case rel => exact ⟨k + 1, by go_num, hlt, ho3, hB3⟩
          case measure => simp [intOf]; omega
        · have hke : k = S.length := by omega
          have HT2 : Hid (S.take k = S) := Lib.hid (by rw [hke, List.take_length])
          have hI2 : decide (k < S.length) = false := by simp; omega
          rw [HT2.out] at hown
          clear hke hlt
          go_wp2_with fail
          go_ret
          exact ⟨_, rfl, Rd.own hown (Nat.le_refl _), hBr, NewV.own hown⟩
set_option maxRecDepth 100000 in
set_option maxHeartbeats 2000000 in
theorem replaceX_any (B : Nat) (v vt : Value) (l t : List EntL) (a z : Nat) (w : World) (hv : Rd B 2 v l.length (ents l) w) (ht : Rd B 2 vt t.length (ents t) w) (hB : B ≤ w.heap.size) (hl : l.length ≤ 10000) (htl : t.length ≤ 10000) (ha : a ≤ l.length) (hz : z ≤ l.length) :
    Calls Tryz.prog 122 #[v, .int .i64 a, .int .i64 z, vt] w fun e w' => GivesEN (l.take a ++ t ++ l.drop z) e w w' := by
  obtain ⟨ao, cap, rfl, hlc, hcm⟩ := hv.form
  obtain ⟨aot, capt, rfl, _, _⟩ := ht.form
  have h1 := run_head ao l.length cap a (by omega)
  have h2 := run_tail ao l.length cap z hz
  have r1 := Lib.hid ((hv.head2 a ha).mono hB)
  have r2 := Lib.hid ((hv.tail2 z hz).mono hB)
  have r3 := Lib.hid (ht.mono hB)
  clear hv ht
  go_enter Tryz.func122, Tryz.ntmps122
  go_wp2_with fail
  go_still_tail 7, (by kernel_rfl)
  change wpList _ _ _ _ _ w.drew
  have hB1 : Below w.heap.size w w.drew := (Below.refl _ w).drew
  have hs1 : w.drew.heap.size = w.heap.size := rfl
  have R1 := Lib.hid (r1.out.below hB1)
  have R2 := Lib.hid (r2.out.below hB1)
  have R3 := Lib.hid (r3.out.below hB1)
  clear r1 r2 r3 h1 h2
  generalize w.drew = w2 at *
  have hbF := heap_alloc_new w2 (.cells #[.slice (headA ao cap) a cap, .slice aot t.length capt, .slice (cutB ao z cap) (l.length - z) (cap - z)] 61)
  have hB2 : Below w.heap.size w (w2.alloc (.cells #[.slice (headA ao cap) a cap, .slice aot t.length capt, .slice (cutB ao z cap) (l.length - z) (cap - z)] 61)) := hB1.alloc (by omega) _
  have hB3 : Below w2.heap.size w2 (w2.alloc (.cells #[.slice (headA ao cap) a cap, .slice aot t.length capt, .slice (cutB ao z cap) (l.length - z) (cap - z)] 61)) := (Below.refl _ w2).alloc (Nat.le_refl _) _
  have hC := concatX_any w2.heap.size 0 3 [(.slice (headA ao cap) a cap, l.take a), (.slice aot t.length capt, t), (.slice (cutB ao z cap) (l.length - z) (cap - z), l.drop z)] (w2.alloc (.cells #[.slice (headA ao cap) a cap, .slice aot t.length capt, .slice (cutB ao z cap) (l.length - z) (cap - z)] 61)) (by simp)
    (by
      have hsz : w.heap.size ≤ (w2.alloc (.cells #[.slice (headA ao cap) a cap, .slice aot t.length capt, .slice (cutB ao z cap) (l.length - z) (cap - z)] 61)).heap.size := by simp; omega
      intro k hk
      have hk3 : k = 0 ∨ k = 1 ∨ k = 2 := by simp at hk; omega
      rcases hk3 with rfl | rfl | rfl
      · refine ⟨by rw [Lib.cell_of_heap hbF]; rfl, ?_⟩
        have := ((R1.out.mono (show w.heap.size ≤ w2.heap.size by omega)).below hB3).mono (show w2.heap.size ≤ _ from hB3.size)
        have e : (l.take a).length = a := by rw [List.length_take]; omega
        show Rd _ 2 _ (l.take a).length _ _
        rw [e]
        exact this
      · exact ⟨by rw [Lib.cell_of_heap hbF]; rfl, ((R3.out.mono (show w.heap.size ≤ w2.heap.size by omega)).below hB3).mono (show w2.heap.size ≤ _ from hB3.size)⟩
      · refine ⟨by rw [Lib.cell_of_heap hbF]; rfl, ?_⟩
        have := ((R2.out.mono (show w.heap.size ≤ w2.heap.size by omega)).below hB3).mono (show w2.heap.size ≤ _ from hB3.size)
        show Rd _ 2 _ (l.drop z).length _ _
        rw [List.length_drop]
        exact this)
    (by
      intro x hx
      simp only [List.mem_cons, List.not_mem_nil, or_false] at hx
      rcases hx with rfl | rfl | rfl
      · show (l.take a).length ≤ 10001; rw [List.length_take]; omega
      · show t.length ≤ 10001; omega
      · show (l.drop z).length ≤ 10001; rw [List.length_drop]; omega)
    (by simp)
  have HE : Hid (allL [((Value.slice (headA ao cap) a cap, l.take a) : Src), (.slice aot t.length capt, t), (.slice (cutB ao z cap) (l.length - z) (cap - z), l.drop z)] = l.take a ++ t ++ l.drop z) := Lib.hid (by simp [allL])
  rw [HE.out] at hC
  clear hbF hB3 hB1
  clear hs1
  go_wp2_with fail
  refine hC.mono ?_
  rintro e w3 ⟨v3, rfl, hr3, hb3, hw3⟩
  go_wp2_with fail
  go_ret
  exact ⟨_, rfl, hr3, hB2.trans (hb3.mono hB2.size), hw3.mono hB2.size⟩
set_option maxRecDepth 100000 in
set_option maxHeartbeats 2000000 in
theorem dropX_any (B : Nat) (v : Value) (l : List EntL) (n : Nm) (w : World) (hv : Rd B 2 v l.length (ents l) w) (hB : B ≤ w.heap.size) (hl : l.length ≤ 10000) (hu : Up l) :
    Calls Tryz.prog 100 #[v, .string (bs n)] w fun e w' => GivesEN (dropL l n) e w w' := by
  obtain ⟨ao, cap, rfl, _, _⟩ := hv.form
  have HP := fun w (hw : Rd w.heap.size 2 (.slice ao l.length cap) l.length (ents l) w) => place_any w.heap.size _ l n w hw (Nat.le_refl _) hl hu
  have hend := end_le hu n
  have hle := lo_len l n
  have HE : Hid (l.take (lo l n).length ++ [] ++ l.drop ((lo l n).length + (mid n (findL l n)).length) = dropL l n) := Lib.hid (by
    rw [take_lo hu, drop_hi hu, drop_parts hu, List.append_nil])
  have HV := Lib.hid (hv.mono hB)
  clear hv
  generalize (lo l n).length = a at *
  generalize (mid n (findL l n)).length = m at *
  generalize hz : a + m = z at *
  go_enter Tryz.func100, Tryz.ntmps100
  go_wp2_with fail
  refine (HP _ HV.out).mono ?_
  rintro e w1 ⟨rfl, hb1⟩
  rw [hz]
  clear HP
  go_wp2_with fail
  refine (replaceX_any _ _ _ l [] a z _ (HV.out.below hb1) (Rd.none0 _ _ _) hb1.size hl (by decide) hle hend).mono ?_
  rintro e w2 ⟨v2, rfl, hr2, hb2, hw2⟩
  rw [HE.out] at hr2
  go_wp2_with fail
  go_ret
  exact ⟨_, rfl, hr2, hb1.trans (hb2.mono hb1.size), hw2.mono hb1.size⟩
set_option maxRecDepth 100000 in
set_option maxHeartbeats 2000000 in
theorem putX_any (B : Nat) (v : Value) (l : List EntL) (n : Nm) (i : Int) (w : World) (hv : Rd B 2 v l.length (ents l) w) (hB : B ≤ w.heap.size) (hl : l.length ≤ 10000) (hu : Up l) :
    Calls Tryz.prog 91 #[v, .agg #[.string (bs n), .int .i64 i]] w fun e w' => GivesEN (putL l (n, i)) e w w' := by
  obtain ⟨ao, cap, rfl, _, _⟩ := hv.form
  have HP := fun w (hw : Rd w.heap.size 2 (.slice ao l.length cap) l.length (ents l) w) => place_any w.heap.size _ l n w hw (Nat.le_refl _) hl hu
  have hend := end_le hu n
  have hle := lo_len l n
  have HE : Hid (l.take (lo l n).length ++ [(n, i)] ++ l.drop ((lo l n).length + (mid n (findL l n)).length) = putL l (n, i)) := Lib.hid (by
    rw [take_lo hu, drop_hi hu, put_mid]; rfl)
  have HV := Lib.hid (hv.mono hB)
  clear hv
  generalize (lo l n).length = a at *
  generalize (mid n (findL l n)).length = m at *
  generalize hz : a + m = z at *
  go_enter Tryz.func91, Tryz.ntmps91
  go_wp2_with fail
  have hb0 : Below w.heap.size w (w.alloc (.cells #[.string (bs n), .int .i64 i] 131)) := (Below.refl _ w).alloc (Nat.le_refl _) _
  have hbF := heap_alloc_new w (.cells #[.string (bs n), .int .i64 i] 131)
  have hf0 : w.heap.size < (w.alloc (.cells #[.string (bs n), .int .i64 i] 131)).heap.size := by simp
  have HV0 := Lib.hid ((HV.out.below hb0).mono hb0.size)
  generalize hnf : w.heap.size = nf at *
  generalize w.alloc (.cells #[.string (bs n), .int .i64 i] 131) = W0 at *
  refine (HP _ HV0.out).mono ?_
  rintro e w1 ⟨rfl, hb1⟩
  rw [hz]
  have s1 := hb1.size
  have hbF1 := (hb1.block nf hf0).trans hbF
  have c0 : w1.cell? ⟨nf, 0, none⟩ = some (.string (bs n)) := by rw [Lib.cell_of_heap hbF1]; rfl
  have c1 : w1.cell? ⟨nf, 1, none⟩ = some (.int .i64 i) := by rw [Lib.cell_of_heap hbF1]; rfl
  have HV1 := Lib.hid ((HV0.out.below hb1).mono s1)
  have HB1 := Lib.hid (hb0.trans (hb1.mono (by omega)))
  have hnw : nf ≤ w1.heap.size := by omega
  clear HP hbF hb0 hb1 hbF1 hf0
  go_wp2_with fail
  have hB2 := HB1.out.alloc hnw (.cells #[.string (bs n), .int .i64 i] 131)
  have hB3 : Below w1.heap.size w1 (w1.alloc (.cells #[.string (bs n), .int .i64 i] 131)) := (Below.refl _ w1).alloc (Nat.le_refl _) _
  have hr1 := Rd_newE w1 [(n, i)] 131 #[.string (bs n), .int .i64 i] rfl (by simp)
  refine (replaceX_any _ _ _ l [(n, i)] a z _ ((HV1.out.below hB3).mono hB3.size) hr1 (Nat.le_refl _) hl (by simp) hle hend).mono ?_
  rintro e w2 ⟨v2, rfl, hr2, hb2, hw2⟩
  rw [HE.out] at hr2
  have s2 := hB3.size
  clear hr1 hB3
  go_wp2_with fail
  go_ret
  exact ⟨_, rfl, hr2, by rw [hnf]; exact hB2.trans (hb2.mono (by omega)), hw2.mono (by have := hB2.size; omega)⟩
theorem put_g (X : Nat → Prop) (n : NodeL) (vn : Value) (nm : Nm) (i : Int) (W : World) (hX : Old X W) (hn : NodeX X n vn W) (hl : n.names.length ≤ 10000) (hu : Up n.names) :
    Calls Tryz.prog 91 #[vn, .agg #[.string (bs nm), .int .i64 i]] W fun e w' => ∃ ao cap, e = .returned (.slice ao (putN n nm i).names.length cap) ∧ NodeX X (putN n nm i) (.slice ao (putN n nm i).names.length cap) w' ∧ Below W.heap.size W w' := by
  refine (putX_any W.heap.size vn n.names nm i W hn.1 (Nat.le_refl _) hl hu).mono ?_
  rintro e w' ⟨v1, rfl, hr, hb, hw⟩
  have hN : NodeX X (putN n nm i) v1 w' := ⟨hr, fun g hg => new_avoid hw (hX g hg)⟩
  obtain ⟨ao, cap, rfl⟩ := node_form hN
  exact ⟨ao, cap, rfl, hN, hb⟩
theorem drop_g (X : Nat → Prop) (n : NodeL) (vn : Value) (nm : Nm) (W : World) (hX : Old X W) (hn : NodeX X n vn W) (hl : n.names.length ≤ 10000) (hu : Up n.names) :
    Calls Tryz.prog 100 #[vn, .string (bs nm)] W fun e w' => ∃ ao cap, e = .returned (.slice ao (dropN n nm).names.length cap) ∧ NodeX X (dropN n nm) (.slice ao (dropN n nm).names.length cap) w' ∧ Below W.heap.size W w' := by
  refine (dropX_any W.heap.size vn n.names nm W hn.1 (Nat.le_refl _) hl hu).mono ?_
  rintro e w' ⟨v1, rfl, hr, hb, hw⟩
  have hN : NodeX X (dropN n nm) v1 w' := ⟨hr, fun g hg => new_avoid hw (hX g hg)⟩
  obtain ⟨ao, cap, rfl⟩ := node_form hN
  exact ⟨ao, cap, rfl, hN, hb⟩
end Go.Proofs.YtpmhmippoefcfaaGreatDoor
namespace Go.Proofs.YtpmhmippoefcfaaGreatDoor
open Go.RowKit Go.Shelf
attribute [local go_sem ↓] Go.wp_at_zero Go.wp_at_succ
theorem node_nil {X : Nat → Prop} {n : NodeL} {W : World} (h : n.names = []) : NodeX X n (.slice none n.names.length 0) W := by
  have := (NodeX.zero X W).same (m := n) (by rw [h]; rfl)
  rwa [h]
end Go.Proofs.YtpmhmippoefcfaaGreatDoor
namespace Go.Proofs.YtpmhmippoefcfaaGreatDoor
open Go.RowKit Go.Shelf
attribute [local go_sem ↓] Go.wp_at_zero Go.wp_at_succ
/-- A disk whose directories are in order, and not too great: what put, drop and lose ask. -/
structure Ord (l : List NodeL) : Prop where
  len : l.length ≤ 10000
  nm : ∀ n ∈ l, n.names.length ≤ 10000
  up : ∀ n ∈ l, Up n.names
theorem Ord.node {l : List NodeL} (h : Ord l) (i : Int) : (nodeL l i).names.length ≤ 10000 ∧ Up (nodeL l i).names := by
  unfold nodeL
  split
  · unfold atI
    rcases Nat.lt_or_ge i.toNat l.length with h1 | h1
    · rw [List.getD_eq_getElem?_getD, List.getElem?_eq_getElem h1]; exact ⟨h.nm _ (List.getElem_mem _), h.up _ (List.getElem_mem _)⟩
    · rw [List.getD_eq_getElem?_getD, List.getElem?_eq_none h1]; exact ⟨Nat.zero_le _, List.Pairwise.nil⟩
  · exact ⟨Nat.zero_le _, List.Pairwise.nil⟩
theorem Ord.set {l : List NodeL} (h : Ord l) {n : NodeL} (h1 : n.names.length ≤ 10000) (h2 : Up n.names) (i : Int) : Ord (setL l i n) := by
  unfold setL
  split
  · refine ⟨by rw [List.length_set]; exact h.len, fun m hm => ?_, fun m hm => ?_⟩
    · rcases List.mem_or_eq_of_mem_set hm with hm | rfl
      · exact h.nm m hm
      · exact h1
    · rcases List.mem_or_eq_of_mem_set hm with hm | rfl
      · exact h.up m hm
      · exact h2
  · exact h
theorem up_drop {es : List EntL} (h : Up es) (nm : Nm) : Up (dropL es nm) := h.sublist List.filter_sublist
theorem Ord.dropped {l : List NodeL} (h : Ord l) (s : SpotL) : Ord (droppedL l s) :=
  h.set (Nat.le_trans (drop_len _ _) (h.node _).1) (up_drop (h.node _).2 _) _
theorem Ord.lost {l : List NodeL} (h : Ord l) (s : SpotL) : Ord (lostL l s) := by
  have h1 := (h.dropped s).node s.ino
  have h2 : Ord (setL (droppedL l s) s.ino (lessN (nodeL (droppedL l s) s.ino))) := Ord.set (n := lessN (nodeL (droppedL l s) s.ino)) (h.dropped s) h1.1 h1.2 _
  unfold lostL settleL
  split
  · exact Ord.set (n := zeroN) h2 (Nat.zero_le _) List.Pairwise.nil _
  · exact h2
theorem Dsk.ord {l : List NodeL} (h : Dsk l) : Ord l := by
  refine ⟨h.len, fun n hn => Nat.le_trans (h.sm.2 n hn).2 (by decide), fun n hn => ?_⟩
  obtain ⟨k, hk, rfl⟩ := List.mem_iff_getElem.1 hn
  rw [← nd_lt hk]
  exact (Rig.sorted (Rig.of h.rig).1 k).2
theorem six_any (m : Int) (w : World) : Calls Tryz.prog 44 #[.int .i64 m] w fun e w' => e = .returned (.int .i64 (m % 64)) ∧ w = w' := by
  have hz : maskI m 0 = m % 64 := by
    have h0 : bits .and .i64 m 0 = 0 := i64_mask m 0 (by decide) |>.trans (by omega)
    have := mask_keeps m 0
    rw [h0] at this
    rw [← this]
    have hV : bits .or .i64 (maskI m 0) (0 % 64) = maskI m 0 := by rw [show (0 : Int) % 64 = 0 from rfl, or_V, mask_V, V_toInt]; simp [V]
    exact hV.symm
  go_enter Tryz.func44, Tryz.ntmps44
  go_wp2_with fail
  refine (mask_any m 0 _).mono ?_
  rintro e w' ⟨rfl, rfl⟩
  go_wp2_with fail
  go_ret
  exact ⟨ret_int (by first | exact hz | rfl), rfl⟩
set_option maxRecDepth 100000 in
set_option maxHeartbeats 4000000 in
theorem cput_g (X : Nat → Prop) (l : List NodeL) (most room : Int) (s : SpotL) (i : Int) (ao : Option Addr) (cap : Nat) (w : World) (hX : Old X w) (hg : GivesX X l (.slice ao l.length cap) w) (hd : Ord l) (hpn : (putN (nodeL l s.dir) s.name i).names.length ≤ 10000) :
    Calls Tryz.prog 50 #[diskV ao l.length cap most room, spotV s, .int .i64 i] w fun e w' => RDiskIs X (namedL l s i) most room e w w' := by
  have S0 := Lib.hid (St.start (G := [(l, .slice ao l.length cap)]) (N := []) hX (one_g hg) no_n)
  have HD := Lib.hid hd
  have HRET : Hid (∀ (W : World) (cs : Array Value) (fr), W.heap[w.heap.size + 2]? = some (.cells cs 24 fr) → cs.size = 3 → ∀ tmps : Array Value, tmps.getD 6 undef = .pointer (some ⟨w.heap.size + 2, 0, none⟩) → (results Tryz.f50 tmps).run Tryz.prog W = .ok (.agg cs) W) := Lib.hid fun W cs fr h hs tmps ht =>
  results_cell_row (p := 6)  (ty := 24) rfl tmps W (w.heap.size + 2) _ cs fr _ ht h Tryz.underlying24 rfl (by rw [hs]; kernel_rfl)
  clear hX hg hd
  obtain ⟨sd, sn, si, ss⟩ := s
  have HP := Lib.hid hpn
  clear hpn
  dsimp only at HP
  have HE : Hid (namedL l ⟨sd, sn, si, ss⟩ i = setL l sd (putN (nodeL l sd) sn i)) := Lib.hid rfl
  go_enter Tryz.func50, Tryz.ntmps50
  go_upto_region 1 with (fail)
  refine code_fresh3 ?_
  intro W1 hb hA0 hA1 hA2 hs
  have S1 := Lib.hid (S0.out.new3 hb hA0 hA1 hA2)
  clear hb hA0 hA1 hA2 hs
  have h_d := (S1.out.at 0 rfl)
  obtain ⟨s0, -, -, -⟩ := cells4 (S1.out.at 1 rfl)
  go_wp2_with (first | (refine wpList_load_row rfl 24 _ rfl _ rfl 24 _ (0, 0) _ h_d Tryz.underlying24 rfl (by kernel_rfl) ?_))
  refine (get_g _ l most room sd _ W1 S1.out.oldX (S1.out.g 0 rfl) HD.out.len HD.out.nm).mono ?_
  rintro e W2 ⟨ao1, cp1, rfl, hn1, hb⟩
  clear h_d s0
  have S2 := Lib.hid ((S1.out.call hb).addN hn1)
  clear hb hn1
  have hnn := HD.out.node sd
  generalize nodeL l sd = n at *
  go_upto_region 2 with (fail)
  refine code_fresh1 ?_
  intro W3 hb hA0 hs
  have S3 := Lib.hid (S2.out.new1 hb hA0)
  clear hb hA0 hs
  obtain ⟨-, -, -, -, -, -, -, n7⟩ := cells8 (S3.out.at 3 rfl)
  have fn := fun j => Lib.frozen_of_heap (S3.out.at 3 rfl) j
  obtain ⟨-, s1, -, -⟩ := cells4 (S3.out.at 1 rfl)
  go_wp2_with fail
  refine (put_g _ n _ sn i W3 S3.out.oldX (S3.out.n 0 rfl) hnn.1 hnn.2).mono ?_
  rintro e W4 ⟨ao2, cp2, rfl, hn2, hb⟩
  clear n7 fn s1
  have S4 := Lib.hid ((S3.out.call hb).addN hn2)
  clear hb hn2
  obtain ⟨n0, n1, n2, n3, n4, n5, n6, n7⟩ := cells8 (S4.out.at 3 rfl)
  have fn := fun j => Lib.frozen_of_heap (S4.out.at 3 rfl) j
  go_upto_region 3 with (fail)
  refine code_set1 (S4.out.at 3 rfl) ?_
  intro W5 hb hg hs hn
  clear n0 n1 n2 n3 n4 n5 n6 n7 fn
  have S5 := Lib.hid (S4.out.set 3 rfl hb hg hs hn)
  clear hb hg hs hn
  obtain ⟨s0, -, -, -⟩ := cells4 (S5.out.at 1 rfl)
  have h_d := (S5.out.at 0 rfl)
  have h_n := (S5.out.at 3 rfl)
  go_wp2_with (first | (refine wpList_load_row rfl 24 _ rfl _ rfl 24 _ (0, 0) _ h_d Tryz.underlying24 rfl (by kernel_rfl) ?_) | (refine wpList_load_row rfl 63 _ rfl _ rfl 63 _ (0, 0) _ h_n Tryz.underlying63 rfl (by kernel_rfl) ?_))
  have hq := HP.out
  refine (set_g _ l most room sd (putN n sn i) _ _ W5 S5.out.oldX (S5.out.g 0 rfl) HD.out.len (S5.out.n 1 rfl) hq).mono ?_
  rintro e W6 ⟨ao3, cp3, rfl, hg3, hb⟩
  clear s0 h_d h_n
  have S6 := Lib.hid ((S5.out.call hb).addG hg3)
  clear hb hg3
  have h_r := (S6.out.at 2 rfl)
  go_wp2_with (first | (refine wpList_store_row rfl 24 _ _ rfl _ rfl rfl h_r rfl (by kernel_rfl) rfl ?_; intro W7 hb hg hs hn; have S7 := Lib.hid (S6.out.set 2 rfl hb hg hs hn); clear hb hg hs hn))
  refine bodyPost_ret (HRET.out _ _ _ (S7.out.at 2 rfl) rfl _ rfl) rfl ?_
  rw [HE.out]
  exact ⟨_, _, rfl, S7.out.gX 1 rfl, S7.out.bel⟩
set_option maxRecDepth 100000 in
set_option maxHeartbeats 4000000 in
theorem cdrop_g (X : Nat → Prop) (l : List NodeL) (most room : Int) (s : SpotL) (ao : Option Addr) (cap : Nat) (w : World) (hX : Old X w) (hg : GivesX X l (.slice ao l.length cap) w) (hd : Ord l) :
    Calls Tryz.prog 64 #[diskV ao l.length cap most room, spotV s] w fun e w' => RDiskIs X (droppedL l s) most room e w w' := by
  have S0 := Lib.hid (St.start (G := [(l, .slice ao l.length cap)]) (N := []) hX (one_g hg) no_n)
  have HD := Lib.hid hd
  have HRET : Hid (∀ (W : World) (cs : Array Value) (fr), W.heap[w.heap.size + 2]? = some (.cells cs 24 fr) → cs.size = 3 → ∀ tmps : Array Value, tmps.getD 4 undef = .pointer (some ⟨w.heap.size + 2, 0, none⟩) → (results Tryz.f64 tmps).run Tryz.prog W = .ok (.agg cs) W) := Lib.hid fun W cs fr h hs tmps ht =>
  results_cell_row (p := 4)  (ty := 24) rfl tmps W (w.heap.size + 2) _ cs fr _ ht h Tryz.underlying24 rfl (by rw [hs]; kernel_rfl)
  clear hX hg hd
  obtain ⟨sd, sn, si, ss⟩ := s
  have HE : Hid (droppedL l ⟨sd, sn, si, ss⟩ = setL l sd (dropN (nodeL l sd) sn)) := Lib.hid rfl
  go_enter Tryz.func64, Tryz.ntmps64
  go_upto_region 1 with (fail)
  refine code_fresh3 ?_
  intro W1 hb hA0 hA1 hA2 hs
  have S1 := Lib.hid (S0.out.new3 hb hA0 hA1 hA2)
  clear hb hA0 hA1 hA2 hs
  have h_d := (S1.out.at 0 rfl)
  obtain ⟨s0, -, -, -⟩ := cells4 (S1.out.at 1 rfl)
  go_wp2_with (first | (refine wpList_load_row rfl 24 _ rfl _ rfl 24 _ (0, 0) _ h_d Tryz.underlying24 rfl (by kernel_rfl) ?_))
  refine (get_g _ l most room sd _ W1 S1.out.oldX (S1.out.g 0 rfl) HD.out.len HD.out.nm).mono ?_
  rintro e W2 ⟨ao1, cp1, rfl, hn1, hb⟩
  clear h_d s0
  have S2 := Lib.hid ((S1.out.call hb).addN hn1)
  clear hb hn1
  have hnn := HD.out.node sd
  generalize nodeL l sd = n at *
  go_upto_region 2 with (fail)
  refine code_fresh1 ?_
  intro W3 hb hA0 hs
  have S3 := Lib.hid (S2.out.new1 hb hA0)
  clear hb hA0 hs
  obtain ⟨-, -, -, -, -, -, -, n7⟩ := cells8 (S3.out.at 3 rfl)
  have fn := fun j => Lib.frozen_of_heap (S3.out.at 3 rfl) j
  obtain ⟨-, s1, -, -⟩ := cells4 (S3.out.at 1 rfl)
  go_wp2_with fail
  refine (drop_g _ n _ sn W3 S3.out.oldX (S3.out.n 0 rfl) hnn.1 hnn.2).mono ?_
  rintro e W4 ⟨ao2, cp2, rfl, hn2, hb⟩
  clear n7 fn s1
  have S4 := Lib.hid ((S3.out.call hb).addN hn2)
  clear hb hn2
  obtain ⟨n0, n1, n2, n3, n4, n5, n6, n7⟩ := cells8 (S4.out.at 3 rfl)
  have fn := fun j => Lib.frozen_of_heap (S4.out.at 3 rfl) j
  go_upto_region 3 with (fail)
  refine code_set1 (S4.out.at 3 rfl) ?_
  intro W5 hb hg hs hn
  clear n0 n1 n2 n3 n4 n5 n6 n7 fn
  have S5 := Lib.hid (S4.out.set 3 rfl hb hg hs hn)
  clear hb hg hs hn
  obtain ⟨s0, -, -, -⟩ := cells4 (S5.out.at 1 rfl)
  have h_d := (S5.out.at 0 rfl)
  have h_n := (S5.out.at 3 rfl)
  go_wp2_with (first | (refine wpList_load_row rfl 24 _ rfl _ rfl 24 _ (0, 0) _ h_d Tryz.underlying24 rfl (by kernel_rfl) ?_) | (refine wpList_load_row rfl 63 _ rfl _ rfl 63 _ (0, 0) _ h_n Tryz.underlying63 rfl (by kernel_rfl) ?_))
  have hq : (dropN n sn).names.length ≤ 10000 := (Nat.le_trans (drop_len _ _) hnn.1)
  refine (set_g _ l most room sd (dropN n sn) _ _ W5 S5.out.oldX (S5.out.g 0 rfl) HD.out.len (S5.out.n 1 rfl) hq).mono ?_
  rintro e W6 ⟨ao3, cp3, rfl, hg3, hb⟩
  clear s0 h_d h_n
  have S6 := Lib.hid ((S5.out.call hb).addG hg3)
  clear hb hg3
  have h_r := (S6.out.at 2 rfl)
  go_wp2_with (first | (refine wpList_store_row rfl 24 _ _ rfl _ rfl rfl h_r rfl (by kernel_rfl) rfl ?_; intro W7 hb hg hs hn; have S7 := Lib.hid (S6.out.set 2 rfl hb hg hs hn); clear hb hg hs hn))
  refine bodyPost_ret (HRET.out _ _ _ (S7.out.at 2 rfl) rfl _ rfl) rfl ?_
  rw [HE.out]
  exact ⟨_, _, rfl, S7.out.gX 1 rfl, S7.out.bel⟩
set_option maxRecDepth 100000 in
set_option maxHeartbeats 4000000 in
theorem settle_g (X : Nat → Prop) (l : List NodeL) (most room i : Int) (ao : Option Addr) (cap : Nat) (w : World) (hX : Old X w) (hg : GivesX X l (.slice ao l.length cap) w) (hd : Ord l) :
    Calls Tryz.prog 94 #[diskV ao l.length cap most room, .int .i64 i] w fun e w' => RDiskIs X (settleL l i) most room e w w' := by
  have S0 := Lib.hid (St.start (G := [(l, .slice ao l.length cap)]) (N := []) hX (one_g hg) no_n)
  have HD := Lib.hid hd
  have HRET : Hid (∀ (W : World) (cs : Array Value) (fr), W.heap[w.heap.size + 1]? = some (.cells cs 24 fr) → cs.size = 3 → ∀ tmps : Array Value, tmps.getD 4 undef = .pointer (some ⟨w.heap.size + 1, 0, none⟩) → (results Tryz.f94 tmps).run Tryz.prog W = .ok (.agg cs) W) := Lib.hid fun W cs fr h hs tmps ht =>
  results_cell_row (p := 4)  (ty := 24) rfl tmps W (w.heap.size + 1) _ cs fr _ ht h Tryz.underlying24 rfl (by rw [hs]; kernel_rfl)
  clear hX hg hd
  go_enter Tryz.func94, Tryz.ntmps94
  go_upto_region 1 with (fail)
  refine code_fresh2 ?_
  intro W1 hb hA0 hA1 hs
  have S1 := Lib.hid (S0.out.new2 hb hA0 hA1)
  clear hb hA0 hA1 hs
  have h_d := (S1.out.at 0 rfl)
  go_wp2_with (first | (refine wpList_load_row rfl 24 _ rfl _ rfl 24 _ (0, 0) _ h_d Tryz.underlying24 rfl (by kernel_rfl) ?_))
  refine (get_g _ l most room i _ W1 S1.out.oldX (S1.out.g 0 rfl) HD.out.len HD.out.nm).mono ?_
  rintro e W2 ⟨ao1, cp1, rfl, hn1, hb⟩
  clear h_d
  have S2 := Lib.hid ((S1.out.call hb).addN hn1)
  clear hb hn1
  have HS : Hid (∀ b, b = gotB l i → settleL l i = if b = true ∧ i ≠ 0 ∧ (nodeL l i).links ≤ 0 ∧ (nodeL l i).opn ≤ 0 then setL l i zeroN else l) := Lib.hid fun b hb => by subst hb; rfl
  generalize hgb : gotB l i = gb at *
  generalize nodeL l i = n at *
  have HE := Lib.hid (HS.out gb rfl)
  clear hgb HS
  go_upto_region 2 with (fail)
  refine code_fresh1 ?_
  intro W3 hb hA0 hs
  have S3 := Lib.hid (S2.out.new1 hb hA0)
  clear hb hA0 hs
  by_cases hc : gb = true ∧ i ≠ 0 ∧ n.links ≤ 0 ∧ n.opn ≤ 0
  · have HE2 := Lib.hid (HE.out.trans (if_pos hc))
    obtain ⟨rfl, h1, h2, h3⟩ := hc
    have i1 : (i == 0) = false := by simpa using h1
    have i2 : decide (0 < n.links) = false := decide_eq_false (by omega)
    have i3 : decide (0 < n.opn) = false := decide_eq_false (by omega)
    clear h1 h2 h3 HE
    obtain ⟨-, -, -, n3, n4, -, -, -⟩ := cells8 (S3.out.at 2 rfl)
    have h_d := (S3.out.at 0 rfl)
    go_wp2_with (first | (refine wpList_load_row rfl 24 _ rfl _ rfl 24 _ (0, 0) _ h_d Tryz.underlying24 rfl (by kernel_rfl) ?_))
    refine (set_g _ l most room i zeroN _ (.slice none 0 0) W3 S3.out.oldX (S3.out.g 0 rfl) HD.out.len (NodeX.zero _ _) (Nat.zero_le _)).mono ?_
    rintro e W4 ⟨ao3, cp3, rfl, hg3, hb⟩
    clear n3 n4 h_d
    have S4 := Lib.hid ((S3.out.call hb).addG hg3)
    clear hb hg3
    have h_r := (S4.out.at 1 rfl)
    go_wp2_with (first | (refine wpList_store_row rfl 24 _ _ rfl _ rfl rfl h_r rfl (by kernel_rfl) rfl ?_; intro W5 hb hg hs hn; have S5 := Lib.hid (S4.out.set 1 rfl hb hg hs hn); clear hb hg hs hn))
    refine bodyPost_ret (HRET.out _ _ _ (S5.out.at 1 rfl) rfl _ rfl) rfl ?_
    rw [HE2.out]
    exact ⟨_, _, rfl, S5.out.gX 1 rfl, S5.out.bel⟩
  · have HE2 := Lib.hid (HE.out.trans (if_neg hc))
    have hT : gb = false ∨ (gb = true ∧ ((i == 0) = true ∨ ((i == 0) = false ∧ (decide (0 < n.links) = true ∨ (decide (0 < n.links) = false ∧ decide (0 < n.opn) = true))))) := by
      cases gb
      · exact .inl rfl
      · refine .inr ⟨rfl, ?_⟩
        by_cases h1 : i = 0
        · exact .inl (by simpa using h1)
        · refine .inr ⟨by simpa using h1, ?_⟩
          by_cases h2 : 0 < n.links
          · exact .inl (decide_eq_true h2)
          · refine .inr ⟨decide_eq_false h2, decide_eq_true ?_⟩
            exact Int.lt_of_not_ge fun h3 => hc ⟨rfl, h1, by omega, h3⟩
    clear hc HE
    rcases hT with rfl | ⟨rfl, i1 | ⟨i1, i2 | ⟨i2, i3⟩⟩⟩
    all_goals
      obtain ⟨-, -, -, n3, n4, -, -, -⟩ := cells8 (S3.out.at 2 rfl)
      have h_r := (S3.out.at 1 rfl)
      have h_d := (S3.out.at 0 rfl)
      go_wp2_with (first | (refine wpList_load_row rfl 24 _ rfl _ rfl 24 _ (0, 0) _ h_d Tryz.underlying24 rfl (by kernel_rfl) ?_) | (refine wpList_store_row rfl 24 _ _ rfl _ rfl rfl h_r rfl (by kernel_rfl) rfl ?_; intro W4 hb hg hs hn; have S4 := Lib.hid (S3.out.set 1 rfl hb hg hs hn); clear hb hg hs hn))
      refine bodyPost_ret (HRET.out _ _ _ (S4.out.at 1 rfl) rfl _ rfl) rfl ?_
      rw [HE2.out]
      exact ⟨_, _, rfl, S4.out.gX 0 rfl, S4.out.bel⟩
end Go.Proofs.YtpmhmippoefcfaaGreatDoor
namespace Go.Proofs.YtpmhmippoefcfaaGreatDoor
open Go.RowKit Go.Shelf
attribute [local go_sem ↓] Go.wp_at_zero Go.wp_at_succ
def shortB (l : List Str) : Bool := l.all fun a => decide (a.length ≤ 200)
theorem short_yes {l : List Str} (h : shortB l = true) : ∀ a ∈ l, a.length ≤ 200 := fun a ha => by simpa using List.all_eq_true.1 h a ha
set_option maxRecDepth 100000 in
set_option maxHeartbeats 1000000 in
theorem short_any (B : Nat) (v : Value) (l : List Str) (w : World) (hv : Rd B 1 v l.length (strs l) w) :
    Calls Tryz.prog 11 #[v] w fun e w' => e = .returned (.bool (shortB l)) ∧ w = w' := by
  obtain ⟨ao, cap, rfl, hn0, hm0⟩ := hv.form
  unfold maxLen at hm0
  have HV := Lib.hid hv
  clear hv
  go_enter Tryz.func11, Tryz.ntmps11
  go_wp2_with fail
  go_loop [3] (fun i => ∃ k : Nat, i = .int .i64 k ∧ k ≤ l.length ∧ Hid (∀ a ∈ l.take k, a.length ≤ 200)) (fun i => l.length - (intOf i).toNat)
  case atStart => exact ⟨0, rfl, Nat.zero_le _, Lib.hid (fun a h => by simp at h)⟩
  case round =>
    obtain ⟨k, rfl, hk, hs⟩ := hrel
    by_cases hlt : k < l.length
    · obtain ⟨b, off, cap', e, hn, hm, hb, hlen, hc⟩ := HV.out.at (by omega)
      injection e with e1 _ e2
      subst e1
      subst e2
      have hc0 := hc _ _ (strs_at l k hlt)
      obtain ⟨a, ha⟩ : ∃ a, a = l[k] := ⟨_, rfl⟩
      rw [← ha] at hc0
      have ht : Hid (l.take (k + 1) = l.take k ++ [a]) := Lib.hid (by rw [ha]; exact List.take_succ_eq_append_getElem hlt)
      have hma : Hid (a ∈ l) := Lib.hid (by rw [ha]; exact List.getElem_mem hlt)
      have hI1 : decide (k < l.length) = true := by simpa using hlt
      clear hc ha
      by_cases hq : 200 < a.length
      · have H : Hid (shortB l = false) := Lib.hid (by
          unfold shortB
          rw [List.all_eq_false]
          exact ⟨a, hma.out, by simpa using hq⟩)
        have hI3 : decide ((200 : Int) < (a.length : Int)) = true := by simp; omega
        go_wp2_with fail
        go_ret
        exact ⟨ret_bool H.out.symm, rfl⟩
      · have hs' : Hid (∀ x ∈ l.take (k + 1), x.length ≤ 200) := Lib.hid (by
          rw [ht.out]
          intro x hx
          rcases List.mem_append.1 hx with h | h
          · exact hs.out x h
          · simp at h; subst h; omega)
        have hI3 : decide ((200 : Int) < (a.length : Int)) = false := by simp; omega
        go_wp2_with fail
        go_round
        case rel => exact ⟨k + 1, by go_num, hlt, hs'⟩
        case measure => simp [intOf]; omega
    · have hke : k = l.length := by omega
      have H : Hid (shortB l = true) := Lib.hid (by
        unfold shortB
        rw [List.all_eq_true]
        intro x hx
        have := hs.out x (by rw [hke, List.take_length]; exact hx)
        simpa using this)
      have hI1 : decide (k < l.length) = false := by simp; omega
      clear hke
      go_wp2_with fail
      go_ret
      exact ⟨ret_bool H.out.symm, rfl⟩
end Go.Proofs.YtpmhmippoefcfaaGreatDoor
namespace Go.Proofs.YtpmhmippoefcfaaGreatDoor
open Go.RowKit Go.Shelf
theorem dsk_of {l : List NodeL} (hr : RightP l) (hs : Small l) : Dsk l :=
  ⟨fun ms e => ⟨⟨by rw [← pl_len, e]; exact Nat.le_trans hs.1 (by decide), fun n hn => by rw [e] at hn; have := (hs.2 n hn).2; omega, by rw [e]; exact hr⟩, fun n hn => by rw [e] at hn; have := (hs.2 n hn).1; omega⟩, hs⟩
theorem siz_small {l : List NodeL} (h : Siz 101 121 l) : Small l := ⟨Nat.le_trans h.1 (by decide), fun n hn => ⟨(h.2 n hn).1, Nat.le_trans (h.2 n hn).2 (by decide)⟩⟩
theorem q_siz {l : List NodeL} {most room : Int} (h : rightQ l most room = true) : Siz 100 60 l := by
  unfold rightQ smallB at h
  simp only [Bool.and_eq_true, decide_eq_true_iff, List.all_eq_true] at h
  exact ⟨h.1.1, fun n hn => h.1.2 n hn⟩
theorem q_right {l : List NodeL} {most room : Int} (h : rightQ l most room = true) : rightR l most room = true := by
  unfold rightQ at h
  rw [Bool.and_eq_true] at h
  exact h.2
theorem q_dsk {l : List NodeL} {most room : Int} (h : rightQ l most room = true) : Dsk l := dsk_of (right_RP (q_right h)) (siz_small ((q_siz h).mono (by decide) (by decide)))
/-- What may be asked of a disk behind a change. -/
structure Aft (l : List NodeL) (most room : Int) : Prop where
  right : rightR l most room = true
  dsk : Dsk l
theorem aft_of {l : List NodeL} {most room : Int} (h : rightR l most room = true) (hs : Siz (100 + 1) (2 * 60 + 1) l) : Aft l most room := ⟨h, dsk_of (right_RP h) (siz_small hs)⟩
theorem Aft.names {l : List NodeL} {most room : Int} (h : Aft l most room) : ∀ n ∈ l, n.names.length ≤ 10000 := fun n hn => Nat.le_trans (h.dsk.sm.2 n hn).2 (by decide)
def sh0 : List NodeL := [⟨2, 63, 0, 1, 0, 0, [], []⟩]
def sh1 : List NodeL := [⟨2, 63, 0, 1, 0, 0, [], [([97], 1)]⟩, ⟨2, 63, 1, 1, 0, 0, [], []⟩]
def sh2 : List NodeL := [⟨2, 63, 0, 1, 0, 0, [], [([97], 1)]⟩, ⟨2, 63, 1, 1, 0, 0, [], [([102], 2)]⟩, ⟨1, 52, 1, 1, 0, 0, [], []⟩]
def sh4 : List NodeL := [⟨2, 63, 0, 1, 0, 0, [], [([97], 1), ([103], 2)]⟩, ⟨2, 63, 1, 1, 0, 0, [], []⟩, ⟨1, 52, 1, 1, 0, 0, [], []⟩]
def sh5 : List NodeL := [⟨2, 63, 0, 1, 0, 0, [], [([103], 2)]⟩, zeroN, ⟨1, 52, 1, 1, 0, 0, [], []⟩]
theorem sh_walk {l : List NodeL} {who fr : Int} {p : Str} {f : Bool} {q : Str} {ps : List Str} (hc : checkE p = 0) (hp : parts p = q :: ps) : walkL l who fr p f = goW l who f (Lib.hasSuffix p [47]) (firstAt fr p) (q :: ps) 0 := by
  unfold walkL
  rw [if_neg (by simp [hc]), hp, if_neg (by simp)]
theorem sw1 : walkL sh0 1 0 [97] false = (⟨0, [97], -1, false⟩, 0) := by
  rw [sh_walk (l := sh0) (who := 1) (fr := 0) (f := false) (p := [97]) (q := [97]) (ps := []) (by decide +kernel) (by decide +kernel), show firstAt 0 [97] = 0 from by decide +kernel, show Lib.hasSuffix [97] [47] = false from by decide +kernel]
  exact go_none1 (by decide +kernel) (by decide +kernel) (by decide +kernel) rfl
theorem sw2 : walkL sh1 1 0 [97, 47, 102] false = (⟨1, [102], -1, false⟩, 0) := by
  rw [sh_walk (l := sh1) (who := 1) (fr := 0) (f := false) (p := [97, 47, 102]) (q := [97]) (ps := [[102]]) (by decide +kernel) (by decide +kernel), show firstAt 0 [97, 47, 102] = 0 from by decide +kernel, show Lib.hasSuffix [97, 47, 102] [47] = false from by decide +kernel]
  rw [show goW sh1 1 false false 0 ([97] :: [[102]]) 0 = goW sh1 1 false false (lookL sh1 0 [97]) [[102]] 0 from go_on (by decide +kernel) (by decide +kernel) (by decide +kernel) (by decide +kernel) (by simp), show lookL sh1 0 [97] = 1 from (by decide +kernel)]
  exact go_none1 (by decide +kernel) (by decide +kernel) (by decide +kernel) rfl
theorem sw3 : walkL sh2 1 0 [97] false = (⟨0, [97], 1, false⟩, 0) := by
  rw [sh_walk (l := sh2) (who := 1) (fr := 0) (f := false) (p := [97]) (q := [97]) (ps := []) (by decide +kernel) (by decide +kernel), show firstAt 0 [97] = 0 from by decide +kernel, show Lib.hasSuffix [97] [47] = false from by decide +kernel]
  rw [show goW sh2 1 false false 0 ([97] :: []) 0 = (⟨0, [97], lookL sh2 0 [97], false⟩, 0) from go_spot (by decide +kernel) (by decide +kernel) (by decide +kernel) (by decide +kernel) rfl (by decide +kernel), show lookL sh2 0 [97] = 1 from (by decide +kernel)]
theorem sw4 : walkL sh2 1 0 [97, 47, 98] false = (⟨1, [98], -1, false⟩, 0) := by
  rw [sh_walk (l := sh2) (who := 1) (fr := 0) (f := false) (p := [97, 47, 98]) (q := [97]) (ps := [[98]]) (by decide +kernel) (by decide +kernel), show firstAt 0 [97, 47, 98] = 0 from by decide +kernel, show Lib.hasSuffix [97, 47, 98] [47] = false from by decide +kernel]
  rw [show goW sh2 1 false false 0 ([97] :: [[98]]) 0 = goW sh2 1 false false (lookL sh2 0 [97]) [[98]] 0 from go_on (by decide +kernel) (by decide +kernel) (by decide +kernel) (by decide +kernel) (by simp), show lookL sh2 0 [97] = 1 from (by decide +kernel)]
  exact go_none1 (by decide +kernel) (by decide +kernel) (by decide +kernel) rfl
theorem sw5 : walkL sh2 1 0 [97, 47, 102] false = (⟨1, [102], 2, false⟩, 0) := by
  rw [sh_walk (l := sh2) (who := 1) (fr := 0) (f := false) (p := [97, 47, 102]) (q := [97]) (ps := [[102]]) (by decide +kernel) (by decide +kernel), show firstAt 0 [97, 47, 102] = 0 from by decide +kernel, show Lib.hasSuffix [97, 47, 102] [47] = false from by decide +kernel]
  rw [show goW sh2 1 false false 0 ([97] :: [[102]]) 0 = goW sh2 1 false false (lookL sh2 0 [97]) [[102]] 0 from go_on (by decide +kernel) (by decide +kernel) (by decide +kernel) (by decide +kernel) (by simp), show lookL sh2 0 [97] = 1 from (by decide +kernel)]
  rw [show goW sh2 1 false false 1 ([102] :: []) 0 = (⟨1, [102], lookL sh2 1 [102], false⟩, 0) from go_spot (by decide +kernel) (by decide +kernel) (by decide +kernel) (by decide +kernel) rfl (by decide +kernel), show lookL sh2 1 [102] = 2 from (by decide +kernel)]
theorem sw6 : walkL sh2 1 0 [103] false = (⟨0, [103], -1, false⟩, 0) := by
  rw [sh_walk (l := sh2) (who := 1) (fr := 0) (f := false) (p := [103]) (q := [103]) (ps := []) (by decide +kernel) (by decide +kernel), show firstAt 0 [103] = 0 from by decide +kernel, show Lib.hasSuffix [103] [47] = false from by decide +kernel]
  exact go_none1 (by decide +kernel) (by decide +kernel) (by decide +kernel) rfl
theorem sw7 : walkL sh4 1 0 [97, 47] false = (⟨0, [97], 1, true⟩, 0) := by
  rw [sh_walk (l := sh4) (who := 1) (fr := 0) (f := false) (p := [97, 47]) (q := [97]) (ps := []) (by decide +kernel) (by decide +kernel), show firstAt 0 [97, 47] = 0 from by decide +kernel, show Lib.hasSuffix [97, 47] [47] = true from by decide +kernel]
  rw [show goW sh4 1 false true 0 ([97] :: []) 0 = (⟨0, [97], lookL sh4 0 [97], true⟩, 0) from go_spot (by decide +kernel) (by decide +kernel) (by decide +kernel) (by decide +kernel) rfl (by decide +kernel), show lookL sh4 0 [97] = 1 from (by decide +kernel)]
theorem sw8 : walkL sh5 1 0 [97] false = (⟨0, [97], -1, false⟩, 0) := by
  rw [sh_walk (l := sh5) (who := 1) (fr := 0) (f := false) (p := [97]) (q := [97]) (ps := []) (by decide +kernel) (by decide +kernel), show firstAt 0 [97] = 0 from by decide +kernel, show Lib.hasSuffix [97] [47] = false from by decide +kernel]
  exact go_none1 (by decide +kernel) (by decide +kernel) (by decide +kernel) rfl
theorem sw9 : walkL sh5 1 0 [103] false = (⟨0, [103], 2, false⟩, 0) := by
  rw [sh_walk (l := sh5) (who := 1) (fr := 0) (f := false) (p := [103]) (q := [103]) (ps := []) (by decide +kernel) (by decide +kernel), show firstAt 0 [103] = 0 from by decide +kernel, show Lib.hasSuffix [103] [47] = false from by decide +kernel]
  rw [show goW sh5 1 false false 0 ([103] :: []) 0 = (⟨0, [103], lookL sh5 0 [103], false⟩, 0) from go_spot (by decide +kernel) (by decide +kernel) (by decide +kernel) (by decide +kernel) rfl (by decide +kernel), show lookL sh5 0 [103] = 2 from (by decide +kernel)]
instance : DecidableEq NodeL := fun a b =>
  decidable_of_iff (a.kind = b.kind ∧ a.mode = b.mode ∧ a.owner = b.owner ∧ a.links = b.links ∧ a.opn = b.opn ∧ a.up = b.up ∧ a.data = b.data ∧ a.names = b.names) ⟨fun ⟨h0, h1, h2, h3, h4, h5, h6, h7⟩ => node_ext h0 h1 h2 h3 h4 h5 h6 h7, fun h => by subst h; simp⟩
theorem sh_new : newL 9 9 63 = sh0 := by decide +kernel
theorem sh_mkdir : mkdirL sh0 9 9 1 0 [97] 63 = (sh1, 0) := by
  unfold mkdirL
  rw [sw1]
  decide +kernel
theorem sh_make : mkfileL sh1 9 9 1 0 [97, 47, 102] 52 = (sh2, 2, 0) := by
  unfold mkfileL
  rw [sw2]
  decide +kernel
theorem sh_into : renameL sh2 1 0 1 0 [97] [97, 47, 98] = (sh2, 15) := by
  unfold renameL
  rw [sw3, sw4]
  decide +kernel
theorem sh_rename : renameL sh2 1 0 1 0 [97, 47, 102] [103] = (sh4, 0) := by
  unfold renameL
  rw [sw5, sw6]
  decide +kernel
theorem sh_rmdir : rmdirL sh4 1 0 [97, 47] = (sh5, 0) := by
  unfold rmdirL
  rw [sw7]
  decide +kernel
theorem sh_unlink : unlinkL sh5 1 0 [97] = (sh5, 2) := by
  unfold unlinkL
  rw [sw8]
  decide +kernel
theorem sh_node : wnodeL (walkL sh5 1 0 [103] false) = (2, 0) := by
  rw [sw9]
  decide +kernel
theorem sh_used : usedL sh5 = 2 := by decide +kernel
theorem dsk0 : Dsk sh0 := dsk_of (right_RP (most := 9) (room := 9) (by decide +kernel)) (siz_small (by unfold Siz; decide +kernel))
theorem dsk1 : Dsk sh1 := dsk_of (right_RP (most := 9) (room := 9) (by decide +kernel)) (siz_small (by unfold Siz; decide +kernel))
theorem dsk2 : Dsk sh2 := dsk_of (right_RP (most := 9) (room := 9) (by decide +kernel)) (siz_small (by unfold Siz; decide +kernel))
theorem dsk4 : Dsk sh4 := dsk_of (right_RP (most := 9) (room := 9) (by decide +kernel)) (siz_small (by unfold Siz; decide +kernel))
theorem dsk5 : Dsk sh5 := dsk_of (right_RP (most := 9) (room := 9) (by decide +kernel)) (siz_small (by unfold Siz; decide +kernel))
end Go.Proofs.YtpmhmippoefcfaaGreatDoor
