import Derived.Test.YtilhiafmljmljaaR26
import Derived.Test.YtilhiafmljmljaaR20
import Derived.Test.YtilhiafmljmljaaR16
namespace Go.Proofs.Ytilhiafmljmljaa
open Go.RowKit Go.Shelf
attribute [local go_sem ↓] Go.wp_at_zero Go.wp_at_succ
theorem tree_d {l : List NodeL} {most room : Int} (h : rightQ l most room = true) (hf : FitD l) : TreeD l most room := by
  unfold rightQ at h
  rw [Bool.and_eq_true] at h
  have hs := h.1
  unfold smallB at hs
  simp only [Bool.and_eq_true, decide_eq_true_iff, List.all_eq_true] at hs
  have hr : RightP l := ⟨most, room, h.2⟩
  have hg := ((right_iff l most room).1 h.2).1
  refine ⟨⟨hg, by omega, fun n hn => by have := (hs.2 n hn).2; omega, Rig.legal hr, fun i => ?_⟩, small_B h.1, hf, h.2⟩
  have h1 := len_inside hg (c := 60) (fun n hn => (hs.2 n hn).2) i
  rw [list_inside hg]
  have h2 := Nat.mul_le_mul_right 60 hs.1
  omega
theorem top_len {l : List NodeL} (h : Rig l) (i : Int) : (plcT l i).length = (listT l i).length := by rw [← top_line h i, List.length_map]
theorem list_g (l : List NodeL) (most room i : Int) (h : TreeOk l) (v : Value) (w : World) (hg : GivesN l v w) :
    Calls Try.prog 9 #[.agg #[v, .int .i64 most, .int .i64 room], .int .i64 i] w fun e w' => ∃ ao cap, e = .returned (.slice ao (listT l i).length cap) ∧ Rd w'.heap.size 4 (.slice ao (listT l i).length cap) (listT l i).length (linesC (listT l i)) w' ∧ Below w.heap.size w w' := by
  obtain ⟨ms, rfl, hv⟩ := hg
  obtain ⟨ao, cap, rfl, _, _⟩ := rdm_form hv
  have hml : ms.length ≤ 1000 := by have := h.len; rwa [pl_len] at this
  refine (list_c most room i w hv hml h.nam h.nm (by rw [top_len h.rig]; exact h.many i)).mono ?_
  rw [top_line h.rig, top_len h.rig]
  rintro e w2 ⟨v2, rfl, ho, hb⟩
  obtain ⟨ao2, cap2, rfl⟩ := own_form ho
  exact ⟨ao2, cap2, rfl, Rd.own ho (Nat.le_refl _), hb⟩
theorem rlist_g (l : List NodeL) (most room i : Int) (h : TreeD l most room) (v : Value) (w : World) (hg : GivesN l v w) :
    Calls Try.prog 12 #[.agg #[v, .int .i64 most, .int .i64 room], .int .i64 i] w fun e w' => ∃ ao cap, e = .returned (.slice ao (listT l i).length cap) ∧ Rd w'.heap.size 4 (.slice ao (listT l i).length cap) (listT l i).length (linesC (listT l i)) w' ∧ Below w.heap.size w w' := by
  obtain ⟨ms, rfl, hv⟩ := hg
  obtain ⟨ao, cap, rfl, _, _⟩ := rdm_form hv
  refine (rList_c most room i w h hv).mono ?_
  rintro e w2 ⟨v2, rfl, ho, hb⟩
  obtain ⟨ao2, cap2, rfl⟩ := own_form ho
  exact ⟨ao2, cap2, rfl, Rd.own ho (Nat.le_refl _), hb⟩
theorem inside_g (l : List NodeL) (most room i : Int) (h : TreeOk l) (v : Value) (w : World) (hg : GivesN l v w) :
    Calls Try.prog 15 #[.agg #[v, .int .i64 most, .int .i64 room], .int .i64 i] w fun e w' => ∃ ao cap, e = .returned (.slice ao (insideT l i).length cap) ∧ Rd w'.heap.size 1 (.slice ao (insideT l i).length cap) (insideT l i).length (intsC (insideT l i)) w' ∧ Below w.heap.size w w' := by
  obtain ⟨ms, rfl, hv⟩ := hg
  obtain ⟨ao, cap, rfl, _, _⟩ := rdm_form hv
  have hml : ms.length ≤ 1000 := by have := h.len; rwa [pl_len] at this
  refine (inside_c most room i w hv hml h.nam h.nm (by rw [top_len h.rig]; exact h.many i)).mono ?_
  rw [top_ino h.rig, top_len h.rig, list_inside h.rig]
  rintro e w2 ⟨v2, rfl, ho, hb⟩
  obtain ⟨ao2, cap2, rfl⟩ := own_form ho
  exact ⟨ao2, cap2, rfl, Rd.own ho (Nat.le_refl _), hb⟩
theorem rinside_g (l : List NodeL) (most room i : Int) (h : TreeD l most room) (v : Value) (w : World) (hg : GivesN l v w) :
    Calls Try.prog 16 #[.agg #[v, .int .i64 most, .int .i64 room], .int .i64 i] w fun e w' => ∃ ao cap, e = .returned (.slice ao (insideT l i).length cap) ∧ Rd w'.heap.size 1 (.slice ao (insideT l i).length cap) (insideT l i).length (intsC (insideT l i)) w' ∧ Below w.heap.size w w' := by
  obtain ⟨ms, rfl, hv⟩ := hg
  obtain ⟨ao, cap, rfl, _, _⟩ := rdm_form hv
  refine (rInside_c most room i w h hv).mono ?_
  rintro e w2 ⟨v2, rfl, ho, hb⟩
  obtain ⟨ao2, cap2, rfl⟩ := own_form ho
  exact ⟨ao2, cap2, rfl, Rd.own ho (Nat.le_refl _), hb⟩
theorem depth_g (l : List NodeL) (most room i : Int) (h : TreeOk l) (v : Value) (w : World) (hg : GivesN l v w) :
    Calls Try.prog 17 #[.agg #[v, .int .i64 most, .int .i64 room], .int .i64 i] w fun e w' => e = .returned (.int .i64 (depthT l i)) ∧ Below w.heap.size w w' := by
  obtain ⟨ms, rfl, hv⟩ := hg
  obtain ⟨ao, cap, rfl, _, _⟩ := rdm_form hv
  have hml : ms.length ≤ 1000 := by have := h.len; rwa [pl_len] at this
  refine (depth_c most room i w hv hml h.nam h.nm).mono ?_
  rw [top_deep h.rig]
  exact fun _ _ h => h
theorem rdepth_g (l : List NodeL) (most room i : Int) (h : TreeD l most room) (v : Value) (w : World) (hg : GivesN l v w) :
    Calls Try.prog 18 #[.agg #[v, .int .i64 most, .int .i64 room], .int .i64 i] w fun e w' => e = .returned (.int .i64 (depthT l i)) ∧ Below w.heap.size w w' := by
  obtain ⟨ms, rfl, hv⟩ := hg
  obtain ⟨ao, cap, rfl, _, _⟩ := rdm_form hv
  refine (rDepth_c most room i w h hv).mono ?_
  exact fun _ _ h => h
set_option maxRecDepth 100000 in
set_option maxHeartbeats 4000000 in
theorem same_g (l l2 : List NodeL) (most room most2 room2 i j : Int) (h : TreeOk l) (h2 : TreeOk l2) (v v2 : Value) (w : World) (hg : GivesN l v w) (hg2 : GivesN l2 v2 w) :
    Calls Try.prog 19 #[.agg #[v, .int .i64 most, .int .i64 room], .int .i64 i, .agg #[v2, .int .i64 most2, .int .i64 room2], .int .i64 j] w fun e w' => e = .returned (.bool (decide (listT l i = listT l2 j))) ∧ Below w.heap.size w w' := by
  obtain ⟨ao, cap, rfl, _, _⟩ : ∃ ao cap, v = .slice ao l.length cap ∧ True ∧ True := by
    obtain ⟨m, rfl, hv⟩ := hg
    obtain ⟨ao, cap, rfl, _, _⟩ := rdm_form hv
    exact ⟨ao, cap, by rw [pl_len], trivial, trivial⟩
  obtain ⟨ao2, cap2, rfl, _, _⟩ : ∃ ao cap, v2 = .slice ao l2.length cap ∧ True ∧ True := by
    obtain ⟨m, rfl, hv⟩ := hg2
    obtain ⟨ao, cap, rfl, _, _⟩ := rdm_form hv
    exact ⟨ao, cap, by rw [pl_len], trivial, trivial⟩
  have HG := Lib.hid hg
  have HG2 := Lib.hid hg2
  clear hg hg2
  go_enter Try.func19, Try.ntmps19
  go_upto_region 1 with (fail)
  refine code_fresh2 ?_
  intro W1 hb hA hA2 hs
  have BD := Lib.hid (hA)
  have BE := Lib.hid (hA2)
  replace HG := Lib.hid (HG.out.keep hb)
  replace HG2 := Lib.hid (HG2.out.keep hb)
  have HB := Lib.hid hb
  clear hb hA hA2 hs
  refine wp_region_held_drew (S := fun V => V.heap[w.heap.size]? = some (.cells #[.slice ao l.length cap, .int .i64 most, .int .i64 room] 24 (0, 0)) ∧ V.heap[w.heap.size + 1]? = some (.cells #[.slice ao2 l2.length cap2, .int .i64 most2, .int .i64 room2] 24 (0, 0)) ∧ True) (by kernel_rfl) ⟨BD.out, BE.out, trivial⟩ (fun hHeld => ?_)
  have hb := (Below.refl W1.heap.size W1).drew
  generalize W1.drew = V1 at *
  replace BD := Lib.hid ((hb.block _ (lt_some BD.out)).trans BD.out)
  replace BE := Lib.hid ((hb.block _ (lt_some BE.out)).trans BE.out)
  replace HG := Lib.hid (HG.out.keep hb)
  replace HG2 := Lib.hid (HG2.out.keep hb)
  replace HB := Lib.hid (ret_tr HB.out hb)
  clear hb
  refine wpAnyH_take (i := 0) rfl (by kernel_rfl) (by kernel_rfl) (by kernel_rfl) (fun _ _ _ h => h) (yieldsIf_load_row (by rfl) 24 _ rfl _ rfl 24 _ (0, 0) _ (fun _ h => h.1) Try.underlying24 rfl (by kernel_rfl)) hHeld ?_
  (try simp only [List.getElem_toArray]); (try simp only [List.getElem_cons_succ]); (try simp only [List.getElem_cons_zero]); (try simp only [Act.put]); (try simp only [List.setIfInBounds_toArray]); (try simp only [List.set_cons_succ]); (try simp only [List.set_cons_zero])
  refine wpAnyH_take (i := 1) (v := ?v1) rfl (by kernel_rfl) (by kernel_rfl) (by kernel_rfl) (fun _ _ _ h => h) (Or.inl ⟨by rfl, ?hy1⟩) hHeld ?rest1
  case hy1 => (intro w hSw; (try dsimp only at hSw); (try go_split_ands); go_simp; first | done | with_reducible rfl)
  (try simp only [List.getElem_toArray]); (try simp only [List.getElem_cons_succ]); (try simp only [List.getElem_cons_zero]); (try simp only [Act.put]); (try simp only [List.setIfInBounds_toArray]); (try simp only [List.set_cons_succ]); (try simp only [List.set_cons_zero])
  refine wpAnyH_take (i := 3) rfl (by kernel_rfl) (by kernel_rfl) (by kernel_rfl) (fun _ _ _ h => h) (yieldsIf_load_row (by rfl) 24 _ rfl _ rfl 24 _ (0, 0) _ (fun _ h => h.2.1) Try.underlying24 rfl (by kernel_rfl)) hHeld ?_
  (try simp only [List.getElem_toArray]); (try simp only [List.getElem_cons_succ]); (try simp only [List.getElem_cons_zero]); (try simp only [Act.put]); (try simp only [List.setIfInBounds_toArray]); (try simp only [List.set_cons_succ]); (try simp only [List.set_cons_zero])
  refine wpAnyH_take (i := 4) (v := ?v2) rfl (by kernel_rfl) (by kernel_rfl) (by kernel_rfl) (fun _ _ _ h => h) (Or.inl ⟨by rfl, ?hy2⟩) hHeld ?rest2
  case hy2 => (intro w hSw; (try dsimp only at hSw); (try go_split_ands); go_simp; first | done | with_reducible rfl)
  (try simp only [List.getElem_toArray]); (try simp only [List.getElem_cons_succ]); (try simp only [List.getElem_cons_zero]); (try simp only [Act.put]); (try simp only [List.setIfInBounds_toArray]); (try simp only [List.set_cons_succ]); (try simp only [List.set_cons_zero])
  refine wpAnyH_ready (rs := [2]) (by kernel_rfl) (by simp) ?_
  refine AllReadyH.cons rfl (fun K hK => ?_) AllReadyH.nil
  go_simp
  refine (list_g l most room i h _ V1 HG.out).mono ?_
  rintro e V2 ⟨ao3, cp3, rfl, hr3, hb⟩
  replace BD := Lib.hid ((hb.block _ (lt_some BD.out)).trans BD.out)
  replace BE := Lib.hid ((hb.block _ (lt_some BE.out)).trans BE.out)
  replace HG := Lib.hid (HG.out.keep hb)
  replace HG2 := Lib.hid (HG2.out.keep hb)
  replace HB := Lib.hid (ret_tr HB.out hb)
  clear hb hHeld
  have R3 := Lib.hid (hr3)
  clear hr3
  go_wp2_with fail
  refine hK.out _ _ ⟨BD.out, BE.out, trivial⟩ (fun hHeld => ?_)
  clear hK K
  (try simp only [List.getElem_toArray]); (try simp only [List.getElem_cons_succ]); (try simp only [List.getElem_cons_zero]); (try simp only [Act.put]); (try simp only [List.setIfInBounds_toArray]); (try simp only [List.set_cons_succ]); (try simp only [List.set_cons_zero])
  refine wpAnyH_ready (rs := [5]) (by kernel_rfl) (by simp) ?_
  refine AllReadyH.cons rfl (fun K hK => ?_) AllReadyH.nil
  go_simp
  refine (list_g l2 most2 room2 j h2 _ V2 HG2.out).mono ?_
  rintro e V3 ⟨ao4, cp4, rfl, hr4, hb⟩
  replace BD := Lib.hid ((hb.block _ (lt_some BD.out)).trans BD.out)
  replace BE := Lib.hid ((hb.block _ (lt_some BE.out)).trans BE.out)
  replace HG := Lib.hid (HG.out.keep hb)
  replace HG2 := Lib.hid (HG2.out.keep hb)
  replace HB := Lib.hid (ret_tr HB.out hb)
  replace R3 := Lib.hid (rd_keep R3.out hb)
  clear hb hHeld
  have R4 := Lib.hid (hr4)
  clear hr4
  go_wp2_with fail
  refine hK.out _ _ ⟨BD.out, BE.out, trivial⟩ (fun hHeld => ?_)
  clear hK K
  (try simp only [List.getElem_toArray]); (try simp only [List.getElem_cons_succ]); (try simp only [List.getElem_cons_zero]); (try simp only [Act.put]); (try simp only [List.setIfInBounds_toArray]); (try simp only [List.set_cons_succ]); (try simp only [List.set_cons_zero])
  refine wpAnyH_ready (rs := [6]) (by kernel_rfl) (by simp) ?_
  refine AllReadyH.cons rfl (fun K hK => ?_) AllReadyH.nil
  go_simp
  refine (equal_c (listT l i) (listT l2 j) (by have := h.many i; omega) ao3 ao4 cp3 cp4 V3 R3.out R4.out).mono ?_
  rintro e V4 ⟨rfl, hb⟩
  replace BD := Lib.hid ((hb.block _ (lt_some BD.out)).trans BD.out)
  replace BE := Lib.hid ((hb.block _ (lt_some BE.out)).trans BE.out)
  replace HG := Lib.hid (HG.out.keep hb)
  replace HG2 := Lib.hid (HG2.out.keep hb)
  replace HB := Lib.hid (ret_tr HB.out hb)
  replace R3 := Lib.hid (rd_keep R3.out hb)
  replace R4 := Lib.hid (rd_keep R4.out hb)
  clear hb hHeld
  go_wp2_with fail
  refine hK.out _ _ ⟨BD.out, BE.out, trivial⟩ (fun hHeld => ?_)
  clear hK K
  (try simp only [List.getElem_toArray]); (try simp only [List.getElem_cons_succ]); (try simp only [List.getElem_cons_zero]); (try simp only [Act.put]); (try simp only [List.setIfInBounds_toArray]); (try simp only [List.set_cons_succ]); (try simp only [List.set_cons_zero])
  refine wpAnyH_take (i := 7) (v := ?v3) rfl (by kernel_rfl) (by kernel_rfl) (by kernel_rfl) (fun _ _ _ h => h) (Or.inl ⟨by rfl, ?hy3⟩) hHeld ?rest3
  case hy3 => (intro w hSw; (try dsimp only at hSw); (try go_split_ands); go_simp; first | done | with_reducible rfl)
  (try simp only [List.getElem_toArray]); (try simp only [List.getElem_cons_succ]); (try simp only [List.getElem_cons_zero]); (try simp only [Act.put]); (try simp only [List.setIfInBounds_toArray]); (try simp only [List.set_cons_succ]); (try simp only [List.set_cons_zero])
  refine wpAnyH_done (by kernel_rfl) ?_ _
  go_wp2_with fail
  go_ret
  exact ⟨rfl, HB.out⟩
set_option maxRecDepth 100000 in
set_option maxHeartbeats 4000000 in
theorem rsame_g (l l2 : List NodeL) (most room most2 room2 i j : Int) (h : TreeD l most room) (h2 : TreeD l2 most2 room2) (v v2 : Value) (w : World) (hg : GivesN l v w) (hg2 : GivesN l2 v2 w) :
    Calls Try.prog 20 #[.agg #[v, .int .i64 most, .int .i64 room], .int .i64 i, .agg #[v2, .int .i64 most2, .int .i64 room2], .int .i64 j] w fun e w' => e = .returned (.bool (decide (listT l i = listT l2 j))) ∧ Below w.heap.size w w' := by
  obtain ⟨ao, cap, rfl, _, _⟩ : ∃ ao cap, v = .slice ao l.length cap ∧ True ∧ True := by
    obtain ⟨m, rfl, hv⟩ := hg
    obtain ⟨ao, cap, rfl, _, _⟩ := rdm_form hv
    exact ⟨ao, cap, by rw [pl_len], trivial, trivial⟩
  obtain ⟨ao2, cap2, rfl, _, _⟩ : ∃ ao cap, v2 = .slice ao l2.length cap ∧ True ∧ True := by
    obtain ⟨m, rfl, hv⟩ := hg2
    obtain ⟨ao, cap, rfl, _, _⟩ := rdm_form hv
    exact ⟨ao, cap, by rw [pl_len], trivial, trivial⟩
  have HG := Lib.hid hg
  have HG2 := Lib.hid hg2
  clear hg hg2
  go_enter Try.func20, Try.ntmps20
  go_upto_region 1 with (fail)
  refine code_fresh2 ?_
  intro W1 hb hA hA2 hs
  have BD := Lib.hid (hA)
  have BE := Lib.hid (hA2)
  replace HG := Lib.hid (HG.out.keep hb)
  replace HG2 := Lib.hid (HG2.out.keep hb)
  have HB := Lib.hid hb
  clear hb hA hA2 hs
  refine wp_region_held_drew (S := fun V => V.heap[w.heap.size]? = some (.cells #[.slice ao l.length cap, .int .i64 most, .int .i64 room] 35 (0, 0)) ∧ V.heap[w.heap.size + 1]? = some (.cells #[.slice ao2 l2.length cap2, .int .i64 most2, .int .i64 room2] 35 (0, 0)) ∧ True) (by kernel_rfl) ⟨BD.out, BE.out, trivial⟩ (fun hHeld => ?_)
  have hb := (Below.refl W1.heap.size W1).drew
  generalize W1.drew = V1 at *
  replace BD := Lib.hid ((hb.block _ (lt_some BD.out)).trans BD.out)
  replace BE := Lib.hid ((hb.block _ (lt_some BE.out)).trans BE.out)
  replace HG := Lib.hid (HG.out.keep hb)
  replace HG2 := Lib.hid (HG2.out.keep hb)
  replace HB := Lib.hid (ret_tr HB.out hb)
  clear hb
  refine wpAnyH_take (i := 0) rfl (by kernel_rfl) (by kernel_rfl) (by kernel_rfl) (fun _ _ _ h => h) (yieldsIf_load_row (by rfl) 35 _ rfl _ rfl 35 _ (0, 0) _ (fun _ h => h.1) Try.underlying35 rfl (by kernel_rfl)) hHeld ?_
  (try simp only [List.getElem_toArray]); (try simp only [List.getElem_cons_succ]); (try simp only [List.getElem_cons_zero]); (try simp only [Act.put]); (try simp only [List.setIfInBounds_toArray]); (try simp only [List.set_cons_succ]); (try simp only [List.set_cons_zero])
  refine wpAnyH_take (i := 1) (v := ?v4) rfl (by kernel_rfl) (by kernel_rfl) (by kernel_rfl) (fun _ _ _ h => h) (Or.inl ⟨by rfl, ?hy4⟩) hHeld ?rest4
  case hy4 => (intro w hSw; (try dsimp only at hSw); (try go_split_ands); go_simp; first | done | with_reducible rfl)
  (try simp only [List.getElem_toArray]); (try simp only [List.getElem_cons_succ]); (try simp only [List.getElem_cons_zero]); (try simp only [Act.put]); (try simp only [List.setIfInBounds_toArray]); (try simp only [List.set_cons_succ]); (try simp only [List.set_cons_zero])
  refine wpAnyH_take (i := 3) rfl (by kernel_rfl) (by kernel_rfl) (by kernel_rfl) (fun _ _ _ h => h) (yieldsIf_load_row (by rfl) 35 _ rfl _ rfl 35 _ (0, 0) _ (fun _ h => h.2.1) Try.underlying35 rfl (by kernel_rfl)) hHeld ?_
  (try simp only [List.getElem_toArray]); (try simp only [List.getElem_cons_succ]); (try simp only [List.getElem_cons_zero]); (try simp only [Act.put]); (try simp only [List.setIfInBounds_toArray]); (try simp only [List.set_cons_succ]); (try simp only [List.set_cons_zero])
  refine wpAnyH_take (i := 4) (v := ?v5) rfl (by kernel_rfl) (by kernel_rfl) (by kernel_rfl) (fun _ _ _ h => h) (Or.inl ⟨by rfl, ?hy5⟩) hHeld ?rest5
  case hy5 => (intro w hSw; (try dsimp only at hSw); (try go_split_ands); go_simp; first | done | with_reducible rfl)
  (try simp only [List.getElem_toArray]); (try simp only [List.getElem_cons_succ]); (try simp only [List.getElem_cons_zero]); (try simp only [Act.put]); (try simp only [List.setIfInBounds_toArray]); (try simp only [List.set_cons_succ]); (try simp only [List.set_cons_zero])
  refine wpAnyH_ready (rs := [2]) (by kernel_rfl) (by simp) ?_
  refine AllReadyH.cons rfl (fun K hK => ?_) AllReadyH.nil
  go_simp
  refine (rlist_g l most room i h _ V1 HG.out).mono ?_
  rintro e V2 ⟨ao3, cp3, rfl, hr3, hb⟩
  replace BD := Lib.hid ((hb.block _ (lt_some BD.out)).trans BD.out)
  replace BE := Lib.hid ((hb.block _ (lt_some BE.out)).trans BE.out)
  replace HG := Lib.hid (HG.out.keep hb)
  replace HG2 := Lib.hid (HG2.out.keep hb)
  replace HB := Lib.hid (ret_tr HB.out hb)
  clear hb hHeld
  have R3 := Lib.hid (hr3)
  clear hr3
  go_wp2_with fail
  refine hK.out _ _ ⟨BD.out, BE.out, trivial⟩ (fun hHeld => ?_)
  clear hK K
  (try simp only [List.getElem_toArray]); (try simp only [List.getElem_cons_succ]); (try simp only [List.getElem_cons_zero]); (try simp only [Act.put]); (try simp only [List.setIfInBounds_toArray]); (try simp only [List.set_cons_succ]); (try simp only [List.set_cons_zero])
  refine wpAnyH_ready (rs := [5]) (by kernel_rfl) (by simp) ?_
  refine AllReadyH.cons rfl (fun K hK => ?_) AllReadyH.nil
  go_simp
  refine (rlist_g l2 most2 room2 j h2 _ V2 HG2.out).mono ?_
  rintro e V3 ⟨ao4, cp4, rfl, hr4, hb⟩
  replace BD := Lib.hid ((hb.block _ (lt_some BD.out)).trans BD.out)
  replace BE := Lib.hid ((hb.block _ (lt_some BE.out)).trans BE.out)
  replace HG := Lib.hid (HG.out.keep hb)
  replace HG2 := Lib.hid (HG2.out.keep hb)
  replace HB := Lib.hid (ret_tr HB.out hb)
  replace R3 := Lib.hid (rd_keep R3.out hb)
  clear hb hHeld
  have R4 := Lib.hid (hr4)
  clear hr4
  go_wp2_with fail
  refine hK.out _ _ ⟨BD.out, BE.out, trivial⟩ (fun hHeld => ?_)
  clear hK K
  (try simp only [List.getElem_toArray]); (try simp only [List.getElem_cons_succ]); (try simp only [List.getElem_cons_zero]); (try simp only [Act.put]); (try simp only [List.setIfInBounds_toArray]); (try simp only [List.set_cons_succ]); (try simp only [List.set_cons_zero])
  refine wpAnyH_ready (rs := [6]) (by kernel_rfl) (by simp) ?_
  refine AllReadyH.cons rfl (fun K hK => ?_) AllReadyH.nil
  go_simp
  refine (rLines_c (listT l i) (listT l2 j) (by have := h.ok.many i; omega) ao3 ao4 cp3 cp4 V3 R3.out R4.out).mono ?_
  rintro e V4 ⟨rfl, hb⟩
  replace BD := Lib.hid ((hb.block _ (lt_some BD.out)).trans BD.out)
  replace BE := Lib.hid ((hb.block _ (lt_some BE.out)).trans BE.out)
  replace HG := Lib.hid (HG.out.keep hb)
  replace HG2 := Lib.hid (HG2.out.keep hb)
  replace HB := Lib.hid (ret_tr HB.out hb)
  replace R3 := Lib.hid (rd_keep R3.out hb)
  replace R4 := Lib.hid (rd_keep R4.out hb)
  clear hb hHeld
  go_wp2_with fail
  refine hK.out _ _ ⟨BD.out, BE.out, trivial⟩ (fun hHeld => ?_)
  clear hK K
  (try simp only [List.getElem_toArray]); (try simp only [List.getElem_cons_succ]); (try simp only [List.getElem_cons_zero]); (try simp only [Act.put]); (try simp only [List.setIfInBounds_toArray]); (try simp only [List.set_cons_succ]); (try simp only [List.set_cons_zero])
  refine wpAnyH_take (i := 7) (v := ?v6) rfl (by kernel_rfl) (by kernel_rfl) (by kernel_rfl) (fun _ _ _ h => h) (Or.inl ⟨by rfl, ?hy6⟩) hHeld ?rest6
  case hy6 => (intro w hSw; (try dsimp only at hSw); (try go_split_ands); go_simp; first | done | with_reducible rfl)
  (try simp only [List.getElem_toArray]); (try simp only [List.getElem_cons_succ]); (try simp only [List.getElem_cons_zero]); (try simp only [Act.put]); (try simp only [List.setIfInBounds_toArray]); (try simp only [List.set_cons_succ]); (try simp only [List.set_cons_zero])
  refine wpAnyH_done (by kernel_rfl) ?_ _
  go_wp2_with fail
  go_ret
  exact ⟨rfl, HB.out⟩
theorem its_gn (l : List NodeL) (h : TreeOk l) (most room : Int) (v : Value) (w : World) (hg : GivesN l v w) :
    Calls Try.prog 13 #[.agg #[v, .int .i64 most, .int .i64 room]] w fun e w' => ∃ ao cap, e = .returned (.agg #[.slice ao l.length cap, .int .i64 most, .int .i64 room]) ∧ GivesN l (.slice ao l.length cap) w' ∧ Below w.heap.size w w' := by
  refine (its_g l most room (by have := h.len; omega) h.nam v w hg).mono ?_
  rintro e w2 ⟨v2, rfl, ⟨m, hm, hv⟩, hb⟩
  obtain ⟨ao, cap, rfl, _, _⟩ := rdm_form hv
  subst hm
  exact ⟨ao, cap, by rw [pl_len], ⟨m, rfl, by rw [pl_len]; exact hv⟩, hb⟩
end Go.Proofs.Ytilhiafmljmljaa
