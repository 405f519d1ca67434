/-
  The program's Pop, Top.
-/
import Derived.Test.YtedcffkmfopalaaDoorJobK
namespace Go.Proofs.YtedcffkmfopalaaDoor
open Go.RowKit Go.Shelf
attribute [local go_sem ↓] Go.wp_at_zero Go.wp_at_succ

set_option maxRecDepth 100000 in
set_option maxHeartbeats 4000000 in
theorem pPop_c (a : JobL) (hl : a.stack.length ≤ 10000) (vn vs vd : Value) (w : World) (ha : GivesJ a vn vs vd w) :
    Calls Tryd.prog 19 #[jval a vn vs vd] w fun e w' => JobIs (popJ a) vn vd e w w' := by
  obtain ⟨an, cn, rfl, _, _⟩ := Rd.form ha.nm
  obtain ⟨ax, cs, rfl, _, _⟩ := ha.st.form
  obtain ⟨ad, cd, rfl, _, _⟩ := Rd.form ha.dr
  have HA := Lib.hid ha
  have hcs : a.stack.length ≤ cs := by assumption
  clear ha
  go_enter Tryd.func19, Tryd.ntmps19
  go_upto_region 1 with (fail)
  refine code_fresh2 ?_
  intro W1 hb hA hR hs
  have p13 : W1.cell? ⟨w.heap.size, 13, none⟩ = some (.slice ax a.stack.length cs) := by rw [Lib.cell_of_heap hA]; rfl
  have f13 : W1.frozen? ⟨w.heap.size, 13, none⟩ = false := Lib.frozen_of_heap hA 13
  by_cases h0 : 0 < a.stack.length
  · have e1 : decide ((0 : Int) < (a.stack.length : Int)) = true := decide_eq_true (by omega)
    have e2 : decide (0 < a.stack.length) = true := decide_eq_true h0
    have e3 : IntKind.i64.wrap ((a.stack.length : Int) - 1) = ((a.stack.length - 1 : Nat) : Int) := by rw [Go.IntWalk.i64_in _ (by omega)]; omega
    have e4 : (a.stack.length : Int) - 1 = ((a.stack.length - 1 : Nat) : Int) := by omega
    have hk : a.stack.length - 1 ≤ cs := by omega
    have HK := Lib.hid (show a.stack.length - 1 ≤ a.stack.length by omega)
    clear hcs
    go_wp2_with fail
    refine (front_c ax a.stack.length cs (a.stack.length - 1) hk _).mono ?_
    rintro e _ ⟨rfl, rfl⟩
    clear e1 e2 e3 e4
    go_upto_region 4 with (fail)
    refine code_set1 hA ?_
    intro W2 hb2 hg2 hs2 hA2
    replace hA2 : W2.heap[w.heap.size]? = some (.cells #[.int .i64 a.kind, .int .i64 a.p, .int .i64 a.phase, .int .i64 a.fd, .int .i64 a.n, .int .i64 a.mode, .int .i64 a.tries, .int .i64 a.pos, .int .i64 a.flags, .string (bs a.path), .string (bs a.path2), .string (bs a.text), .slice an a.names.length cn, .slice ax (a.stack.length - 1) (a.stack.length - 1), .slice ad a.draws.length cd, .bool a.done, .int .i64 a.exit, .string (bs a.out), .int .i64 a.e] 27 (0, 0)) := hA2
    have hR2 := (hg2 (w.heap.size + 1) (by omega)).trans hR
    have HB := Lib.hid (hb.trans (hb2.mono (Nat.le_refl _)))
    clear hb hb2 hg2 p13 f13 hA hR
    go_wp2_with (first | (refine wpList_load_row rfl 27 _ rfl _ rfl 27 _ (0, 0) _ hA2 Tryd.underlying27 rfl (by kernel_rfl) ?_) | (refine wpList_store_row rfl 27 _ _ rfl _ rfl rfl hR2 rfl (by kernel_rfl) rfl ?_; intro W3 hb3 hg3 hs3 hR3))
    (try simp only [Exit.inBlock, Exit.then])
    refine bodyPost_ret (results_cell_row (p := 2) (ty := 27) rfl _ W3 (w.heap.size + 1) _ _ _ _ rfl hR3 Tryd.underlying27 rfl (by kernel_rfl)) rfl ?_
    have hB := HB.out.trans (hb3.mono (by omega))
    refine ⟨.slice ax (a.stack.length - 1) (a.stack.length - 1), rfl, ⟨rd_keep HA.out.nm hB, ?_, rd_keep HA.out.dr hB⟩, hB⟩
    show GivesF a.stack.dropLast _ W3
    rw [List.dropLast_eq_take]
    exact (HA.out.st.keep hB).front _ HK.out
  · have e1 : decide ((0 : Int) < (a.stack.length : Int)) = false := decide_eq_false (by omega)
    have e2 : decide (0 < a.stack.length) = false := decide_eq_false h0
    have HE : Hid (popJ a = a) := Lib.hid (by have : a.stack = [] := List.eq_nil_of_length_eq_zero (by omega); unfold popJ; rw [this]; cases a; simp_all)
    clear h0
    go_upto_region 4 with (fail)
    clear p13 f13 e1 e2
    go_wp2_with (first | (refine wpList_load_row rfl 27 _ rfl _ rfl 27 _ (0, 0) _ hA Tryd.underlying27 rfl (by kernel_rfl) ?_) | (refine wpList_store_row rfl 27 _ _ rfl _ rfl rfl hR rfl (by kernel_rfl) rfl ?_; intro W3 hb3 hg3 hs3 hR3))
    (try simp only [Exit.inBlock, Exit.then])
    refine bodyPost_ret (results_cell_row (p := 2) (ty := 27) rfl _ W3 (w.heap.size + 1) _ _ _ _ rfl hR3 Tryd.underlying27 rfl (by kernel_rfl)) rfl ?_
    have hB := hb.trans (hb3.mono (by omega))
    rw [HE.out]
    exact ⟨_, rfl, HA.out.keep hB, hB⟩
/-- The last frame, its names in a row of their own. -/
def TopIs (f : FrameL) (e : Ending) (w w' : World) : Prop := ∃ v, e = .returned (.tuple #[fval f v, .bool true]) ∧ Rd w'.heap.size 1 v f.names.length (strs f.names) w' ∧ Below w.heap.size w w'
set_option maxRecDepth 100000 in
set_option maxHeartbeats 4000000 in
theorem pTop_c (a : JobL) (hl : a.stack.length ≤ 10000) (f : FrameL) (hlast : a.stack.getLast? = some f) (hf : f.names.length ≤ 10000) (vn vs vd : Value) (w : World) (ha : GivesJ a vn vs vd w) :
    Calls Tryd.prog 18 #[jval a vn vs vd] w fun e w' => TopIs f e w w' := by
  obtain ⟨an, cn, rfl, _, _⟩ := Rd.form ha.nm
  obtain ⟨ax, cs, rfl, _, _⟩ := ha.st.form
  obtain ⟨ad, cd, rfl, _, _⟩ := Rd.form ha.dr
  obtain ⟨hn, hat⟩ : ∃ h : a.stack.length - 1 < a.stack.length, a.stack[a.stack.length - 1] = f := by
    rw [List.getLast?_eq_getElem?] at hlast
    exact List.getElem?_eq_some_iff.1 hlast
  have HA := Lib.hid ha
  clear ha hlast
  go_enter Tryd.func18, Tryd.ntmps18
  go_upto_region 1 with (fail)
  refine code_fresh2 ?_
  intro W1 hb hA hR hs
  have p13 : W1.cell? ⟨w.heap.size, 13, none⟩ = some (.slice ax a.stack.length cs) := by rw [Lib.cell_of_heap hA]; rfl
  have e1 : ((a.stack.length : Int) == 0) = false := beq_eq_false_iff_ne.2 (by omega)
  have e2 : (a.stack.length == 0) = false := beq_eq_false_iff_ne.2 (by omega)
  have e0 : decide (a.stack.length = 0) = false := decide_eq_false (by omega)
  have e5 : decide ((a.stack.length : Int) = 0) = false := decide_eq_false (by omega)
  have e3 : IntKind.i64.wrap ((a.stack.length : Int) - 1) = ((a.stack.length - 1 : Nat) : Int) := by rw [Go.IntWalk.i64_in _ (by omega)]; omega
  have e4 : (a.stack.length : Int) - 1 = ((a.stack.length - 1 : Nat) : Int) := by omega
  have k0 : (0 : Int) ≤ ((a.stack.length - 1 : Nat) : Int) := by omega
  have k1 : ((a.stack.length - 1 : Nat) : Int) < (a.stack.length : Int) := by omega
  obtain ⟨b, off, an2, cn2, eax, hbl, hRA, c0, c1, c2⟩ := frame_at (HA.out.st.keep hb) (a.stack.length - 1) hn
  subst eax
  rw [hat] at hRA c0 c1 c2
  clear hat
  have HRA := Lib.hid hRA
  clear hRA
  generalize hk : a.stack.length - 1 = k at *
  have kt : ((k : Int)).toNat = k := rfl
  clear hk hn
  go_upto_region 5 with (first | (refine wpList_fresh1 ?_; intro V1 hb2 hA1 hs1; rw [hs] at hA1) | (refine wpList_store_row rfl 46 _ _ rfl _ rfl rfl hA1 rfl (by kernel_rfl) rfl ?_; intro V2 hb3 hg3 hs3 hA2))
  (try simp only [List.getElem_toArray]); (try simp only [List.getElem_cons_succ]); (try simp only [List.getElem_cons_zero]); (try simp only [Act.put]); (try simp only [List.setIfInBounds_toArray]); (try simp only [List.set_cons_succ]); (try simp only [List.set_cons_zero])
  have hbv : Below W1.heap.size W1 V2 := hb2.trans (hb3.mono (by omega))
  have hR2 := (hbv.block _ (by omega)).trans hR
  have sV : V2.heap.size = W1.heap.size + 1 := by omega
  have HB := Lib.hid (ret_tr hb hbv)
  have HN := Lib.hid (rd_keep HRA.out hbv)
  clear hb hb2 hb3 hg3 hs3 hA1 hs1 hbv e0 e1 e2 e3 e4 e5 k0 k1 kt c0 c1 c2 p13 hA hR HRA
  obtain ⟨f0, f1, f2⟩ := cells3 hA2
  have ff := fun j => Lib.frozen_of_heap hA2 j
  go_wp2_with fail
  refine (clone_strs _ f.names V2 HN.out hf).mono ?_
  rintro e W3 ⟨v3, rfl, ho3, hb3⟩
  obtain ⟨ao3, cap3, rfl⟩ := own_form ho3
  have hA3 := (hb3.block _ (by omega)).trans hA2
  have hR3 := (hb3.block _ (by omega)).trans hR2
  have sz3 := hb3.size
  have HB3 := Lib.hid (ret_tr HB.out hb3)
  clear hb3 hA2 hR2 f0 f1 f2 ff HB HN
  obtain ⟨f0, f1, f2⟩ := cells3 hA3
  have ff := fun j => Lib.frozen_of_heap hA3 j
  go_upto_region 6 with (fail)
  refine code_set1 hA3 ?_
  intro W4 hb4 hg4 hs4 hA4
  replace hA4 : W4.heap[w.heap.size + 2]? = some (.cells #[.int .i64 f.fd, .string (bs f.name), .slice ao3 f.names.length cap3] 46 (0, 0)) := hA4
  have hR4 := (hg4 (w.heap.size + 1) (by omega)).trans hR3
  have ho4 := ownsRow_other (W' := W4) ho3 (fun g hg => hg4 g (by omega))
  have HB4 := Lib.hid (HB3.out.trans (hb4.mono (by omega)))
  clear ff f0 f1 f2 hb4 hA3 hR3 HB3 ho3 hg4
  go_wp2_with (first | (refine wpList_load_row rfl 46 _ rfl _ rfl 46 _ (0, 0) _ hA4 Tryd.underlying46 rfl (by kernel_rfl) ?_) | (refine wpList_store_row rfl 46 _ _ rfl _ rfl rfl hR4 rfl (by kernel_rfl) rfl ?_; intro W5 hb5 hg5 hs5 hR5))
  (try simp only [Exit.inBlock, Exit.then])
  refine bodyPost_ret (results_ct (p := 2) (u := 3) (ty := 46) rfl _ W5 (w.heap.size + 1) _ _ _ _ rfl hR5 Tryd.underlying46 rfl (by kernel_rfl)) rfl ?_
  have ho5 := ownsRow_other (W' := W5) ho4 (fun g hg => hg5 g (by omega))
  exact ⟨_, rfl, Rd.own ho5 (Nat.le_refl _), HB4.out.trans (hb5.mono (by omega))⟩
end Go.Proofs.YtedcffkmfopalaaDoor
