/-
  The directory to which a way has come; what a part names there.
-/
import Derived.Test.YtckbhkchnhhecaaDoorWalkA
namespace Go.Proofs.YtckbhkchnhhecaaDoor
open Go.RowKit Go.Shelf
attribute [local go_sem ↓] Go.wp_at_zero Go.wp_at_succ

theorem heap_at_new2 (w : World) (o1 o2 : Obj) : ((w.alloc o1).drew.alloc o2).heap[w.heap.size + 1]? = some o2 := by
  have := heap_alloc_new (w.alloc o1).drew o2
  simpa using this
theorem heap_at_old2 (w : World) (o1 o2 : Obj) : ((w.alloc o1).drew.alloc o2).heap[w.heap.size]? = some o1 :=
  (((Below.refl (w.heap.size + 1) (w.alloc o1).drew).alloc (by simp) o2).block w.heap.size (Nat.lt_succ_self _)).trans (heap_alloc_new w o1)
theorem rd_sets {g n size : Nat} {v : Value} {xs : List Value} {W W' : World} (h : Rd W.heap.size size v n xs W) (hs : W.heap.size ≤ W'.heap.size) (hg : ∀ k, k ≠ g → W'.heap[k]? = W.heap[k]?) (hne : v.ownBlock ≠ some g) : Rd W'.heap.size size v n xs W' := by
  obtain ⟨ao, cap, rfl, hc, hm, hz, hl, h⟩ := h
  refine ⟨ao, cap, rfl, hc, hm, hz, hl, fun hn => ?_⟩
  obtain ⟨b, off, rfl, hb, h⟩ := h hn
  have hbg : b ≠ g := fun e => hne (by rw [e]; rfl)
  refine ⟨b, off, rfl, by omega, fun j u hu => ?_⟩
  rw [World.cell?_of_block (a := ⟨b, off + j, Option.none⟩) (hg b hbg)]
  exact h j u hu
theorem getL_node (l : List NodeL) (i : Int) : getL l i = nodeL l i := by unfold getL nodeL; cases gotB l i <;> rfl
/-- Of a disk: what the walks ask. -/
structure DskOk (ms : List NodeM) : Prop where
  len : ms.length ≤ 10000
  nms : ∀ n ∈ pl ms, n.names.length ≤ 10000
  right : RightP (pl ms)
theorem DskOk.names {ms : List NodeM} (hd : DskOk ms) (i : Int) : (nodeL (pl ms) i).names.length ≤ 10000 := by
  cases hg : gotB (pl ms) i with
  | false => unfold nodeL; rw [hg]; exact Nat.zero_le _
  | true =>
    obtain ⟨k, rfl, hlt, hn, _, _⟩ := right_ok hd.right hg
    rw [hn]; exact hd.nms _ (List.getElem_mem hlt)
/-- The directory, or what is wrong with it. -/
def DirIs (l : List NodeL) (i : Int) (e : Ending) (w w' : World) : Prop :=
  (dirE l i ≠ 0 ∧ e = .returned (.tuple #[nval zeroN (.slice none 0 0), faultV (dirE l i)]) ∧ Below w.heap.size w w') ∨
    (dirE l i = 0 ∧ ∃ v, e = .returned (.tuple #[nval (nodeL l i) v, .nilIface]) ∧ RdNm w'.heap.size (nodeL l i, v) w' ∧ Below w.heap.size w w')
set_option maxRecDepth 100000 in
set_option maxHeartbeats 4000000 in
theorem dir_any (b : Nat) (F : WayF) (i : Int) (vl : Value) (left : List Str) (hops : Nat) (sp : SpotL) (ms : List NodeM) (w : World) (hw : WayM b F i vl left hops sp w) (hv : RdM w.heap.size F.nodes ms w) (hd : DskOk ms) :
    Calls Tryd.prog 34 #[.pointer (some ⟨b, 0, none⟩)] w fun e w' => DirIs (pl ms) i e w w' := by
  obtain ⟨aod, capd, ed, _, _⟩ := rdm_form hv
  obtain ⟨nodes, most, room, who, follow, slash⟩ := F
  dsimp only at ed hv
  subst ed
  have HV := Lib.hid hv
  have HW := Lib.hid hw
  have hbl := hw.lt
  have hS : ∀ W, Below w.heap.size w W → W.cell? ⟨b, 0, none⟩ = some (.slice aod ms.length capd) ∧ W.cell? ⟨b, 1, none⟩ = some (.int .i64 most) ∧ W.cell? ⟨b, 2, none⟩ = some (.int .i64 room) ∧ W.cell? ⟨b, 6, none⟩ = some (.int .i64 i) := fun W hb => by
    obtain ⟨c0, c1, c2, c3, c4, c5, c6, c7, c8, c9, c10, c11, c12⟩ := cells13 ((hb.block _ hbl).trans hw.blk)
    exact ⟨c0, c1, c2, c6⟩
  have HG : ∀ W, Below w.heap.size w W → Calls Tryd.prog 45 #[.agg #[.slice aod ms.length capd, .int .i64 most, .int .i64 room], .int .i64 i] W fun e w' => GetNew (pl ms) i e W w' :=
    fun W hb => get_new _ ms most room i W (rdm_keep hv hb) hd.len hd.nms
  have HGG := Lib.hid HG
  have HSS := Lib.hid hS
  clear hv hw hS HG
  have hret : ∀ (W : World) (cs : Array Value) (fr), W.heap[w.heap.size]? = some (.cells cs 48 fr) → cs.size = 8 → ∀ tmps : Array Value, tmps.getD 2 undef = .pointer (some ⟨w.heap.size, 0, none⟩) → (results Tryd.f34 tmps).run Tryd.prog W = .ok (.tuple #[.agg cs, tmps.getD 3 undef]) W := fun W cs fr h hs tmps ht =>
    results_ct (p := 2) (u := 3) (ty := 48) rfl tmps W w.heap.size _ cs fr _ ht h Tryd.underlying48 rfl (by rw [hs]; kernel_rfl)
  have HRET := Lib.hid hret
  clear hret
  go_enter Tryd.func34, Tryd.ntmps34
  go_wp2_with fail
  go_region_held3 (fun W => W.cell? ⟨b, 0, none⟩ = some (.slice aod ms.length capd) ∧ W.cell? ⟨b, 1, none⟩ = some (.int .i64 most) ∧ W.cell? ⟨b, 2, none⟩ = some (.int .i64 room) ∧ W.cell? ⟨b, 6, none⟩ = some (.int .i64 i))
    (first
      | exact HSS.out _ (by go_grown)
      | go_keep)
    (first
      | (go_at_call 45; (with_reducible refine (HGG.out _ (by go_grown)).mono ?_); intro e W4 hget; obtain ⟨v4, rfl, hr4, hb4, nw4⟩ := hget; have bw4 : Below w.heap.size w W4 := (ret_tr (w := w) (by go_grown) hb4); have sw4 := bw4.size; have hq4 := (hb4.block w.heap.size (by simp <;> omega)).trans (by first | exact heap_alloc_new w _ | exact heap_at_old2 w _ _); (try (have hz4 := (hb4.block (w.heap.size + 1) (by simp)).trans (heap_at_new2 w _ _); have zf := (fun i => Lib.frozen_of_heap hz4 i); obtain ⟨z0, z1, z2, z3, z4, z5, z6, z7⟩ := cells8 hz4)); have hf4 := Rd.form hr4; obtain ⟨ao4, cp4, ev4, _, _⟩ := hf4; have ev5 : v4 = .slice ao4 (getL (pl ms) i).names.length cp4 := ev4; subst ev5)
      | fail)
  · refine fresh1 (P := fun W => Exit.then _ _ _ _ W) ?_
    intro W5 hb5 hn5 hs5
    have bw5 : Below w.heap.size w W5 := bw4.trans (hb5.mono sw4)
    have hq5 : W5.heap[w.heap.size]? = some _ := (hb5.block _ (Array.getElem?_eq_some_iff.1 hq4).1).trans hq4
    have hr5 := Lib.hid (rdnm_keep hr4 hb5)
    have hne : (Value.slice ao4 (getL (pl ms) i).names.length cp4).ownBlock ≠ some w.heap.size := fun e => by have := nw4 _ e; simp at this; omega
    clear nw4 hq4 hb4 bw4 hb5 hr4
    rw [getL_node] at hr5 hn5 hne
    rw [getL_node]
    cases hg : gotB (pl ms) i with
    | false =>
      have HE : Hid (dirE (pl ms) i = 2) := Lib.hid (by unfold dirE; rw [hg]; rfl)
      obtain ⟨q0, q1, q2, q3, q4, q5, q6, q7⟩ := cells8 hq5
      have rf := fun j => Lib.frozen_of_heap hq5 j
      clear hg hr5
      go_wp2_with fail
      refine sets8 (P := fun W => bodyPost _ _ _ _ _ W) hq5 ?_
      intro W6 hb6 hg6 hs6 hR6
      refine bodyPost_ret (HRET.out _ _ _ hR6 rfl _ rfl) rfl ?_
      exact .inl ⟨by rw [HE.out]; decide, by rw [HE.out]; rfl, bw5.trans hb6⟩
    | true =>
      have HGot := Lib.hid hg
      clear hg
      obtain ⟨n, hn⟩ : ∃ n, n = nodeL (pl ms) i := ⟨_, rfl⟩
      rw [← hn] at hr5 hn5 hne
      have HNE := Lib.hid hne
      clear hne
      rw [← hn]
      have HN := Lib.hid hn
      clear hn
      obtain ⟨n0, n1, n2, n3, n4, n5, n6, n7⟩ := cells8 hn5
      obtain ⟨q0, q1, q2, q3, q4, q5, q6, q7⟩ := cells8 hq5
      have rf := fun j => Lib.frozen_of_heap hq5 j
      by_cases hk : n.kind = 2
      · have hI : (n.kind != 2) = false := by simpa using hk
        have HE : Hid (dirE (pl ms) i = 0) := Lib.hid (by unfold dirE; rw [HGot.out, if_pos rfl, ← HN.out, if_pos hk])
        clear hk
        go_wp2_with fail
        refine sets8 (P := fun W => bodyPost _ _ _ _ _ W) hq5 ?_
        intro W6 hb6 hg6 hs6 hR6
        refine bodyPost_ret (HRET.out _ _ _ hR6 rfl _ rfl) rfl ?_
        exact .inr ⟨HE.out, .slice ao4 n.names.length cp4, by rw [← HN.out]; rfl, by rw [← HN.out]; exact rd_sets hr5.out (by omega) hg6 HNE.out, bw5.trans hb6⟩
      · have hI : (n.kind != 2) = true := by simpa using hk
        have HE : Hid (dirE (pl ms) i = 4) := Lib.hid (by unfold dirE; rw [HGot.out, if_pos rfl, ← HN.out, if_neg hk])
        clear hk hr5
        go_wp2_with fail
        refine sets8 (P := fun W => bodyPost _ _ _ _ _ W) hq5 ?_
        intro W6 hb6 hg6 hs6 hR6
        refine bodyPost_ret (HRET.out _ _ _ hR6 rfl _ rfl) rfl ?_
        exact .inl ⟨by rw [HE.out]; decide, by rw [HE.out]; rfl, bw5.trans hb6⟩
  · refine sets8 (P := fun W => Exit.then _ _ _ _ W) hz4 ?_
    intro W5 hb5 hg5 hs5 hn5
    have bw5 : Below w.heap.size w W5 := bw4.trans (hb5.mono (by omega))
    have hq5 : W5.heap[w.heap.size]? = some _ := (hg5 _ (by omega)).trans hq4
    have hr5 := Lib.hid (rd_sets hr4 hb5.size hg5 (fun e => by have := nw4 _ e; simp at this; omega))
    have hne : (Value.slice ao4 (getL (pl ms) i).names.length cp4).ownBlock ≠ some w.heap.size := fun e => by have := nw4 _ e; simp at this; omega
    clear nw4 hq4 hb4 bw4 hb5 z0 z1 z2 z3 z4 z5 z6 z7 zf hz4
    rw [getL_node] at hr5 hn5 hne
    rw [getL_node]
    cases hg : gotB (pl ms) i with
    | false =>
      have HE : Hid (dirE (pl ms) i = 2) := Lib.hid (by unfold dirE; rw [hg]; rfl)
      obtain ⟨q0, q1, q2, q3, q4, q5, q6, q7⟩ := cells8 hq5
      have rf := fun j => Lib.frozen_of_heap hq5 j
      clear hg hr5
      go_wp2_with fail
      refine sets8 (P := fun W => bodyPost _ _ _ _ _ W) hq5 ?_
      intro W6 hb6 hg6 hs6 hR6
      refine bodyPost_ret (HRET.out _ _ _ hR6 rfl _ rfl) rfl ?_
      exact .inl ⟨by rw [HE.out]; decide, by rw [HE.out]; rfl, bw5.trans hb6⟩
    | true =>
      have HGot := Lib.hid hg
      clear hg
      obtain ⟨n, hn⟩ : ∃ n, n = nodeL (pl ms) i := ⟨_, rfl⟩
      rw [← hn] at hr5 hn5 hne
      have HNE := Lib.hid hne
      clear hne
      rw [← hn]
      have HN := Lib.hid hn
      clear hn
      obtain ⟨n0, n1, n2, n3, n4, n5, n6, n7⟩ := cells8 hn5
      obtain ⟨q0, q1, q2, q3, q4, q5, q6, q7⟩ := cells8 hq5
      have rf := fun j => Lib.frozen_of_heap hq5 j
      by_cases hk : n.kind = 2
      · have hI : (n.kind != 2) = false := by simpa using hk
        have HE : Hid (dirE (pl ms) i = 0) := Lib.hid (by unfold dirE; rw [HGot.out, if_pos rfl, ← HN.out, if_pos hk])
        clear hk
        go_wp2_with fail
        refine sets8 (P := fun W => bodyPost _ _ _ _ _ W) hq5 ?_
        intro W6 hb6 hg6 hs6 hR6
        refine bodyPost_ret (HRET.out _ _ _ hR6 rfl _ rfl) rfl ?_
        exact .inr ⟨HE.out, .slice ao4 n.names.length cp4, by rw [← HN.out]; rfl, by rw [← HN.out]; exact rd_sets hr5.out (by omega) hg6 HNE.out, bw5.trans hb6⟩
      · have hI : (n.kind != 2) = true := by simpa using hk
        have HE : Hid (dirE (pl ms) i = 4) := Lib.hid (by unfold dirE; rw [HGot.out, if_pos rfl, ← HN.out, if_neg hk])
        clear hk hr5
        go_wp2_with fail
        refine sets8 (P := fun W => bodyPost _ _ _ _ _ W) hq5 ?_
        intro W6 hb6 hg6 hs6 hR6
        refine bodyPost_ret (HRET.out _ _ _ hR6 rfl _ rfl) rfl ?_
        exact .inl ⟨by rw [HE.out]; decide, by rw [HE.out]; rfl, bw5.trans hb6⟩
end Go.Proofs.YtckbhkchnhhecaaDoor
