/-
  The program's Boot and Spawn.
-/
import Derived.Test.YtkoaicabkgaglaaGreatDoorProcF
import Derived.Test.YtkoaicabkgaglaaGreatDoorR32
import Derived.Test.YtkoaicabkgaglaaGreatDoorR29
import Derived.Deep.RegionHeld3
import Derived.Deep.DeepCutAuto
namespace Go.Proofs.YtkoaicabkgaglaaGreatDoor
open Go.RowKit Go.Shelf
attribute [local go_sem ↓] Go.wp_at_zero Go.wp_at_succ

/-- A new disk, and where it lies. -/
def NewDisk (most room mode : Int) (e : Ending) (w w' : World) : Prop := ∃ g, e = .returned (.agg #[.slice (some ⟨g, 0, none⟩) 1 1, .int .i64 most, .int .i64 room]) ∧ w'.heap[g]? = some (.cells #[.int .i64 2, .int .i64 mode, .int .i64 0, .int .i64 1, .int .i64 0, .int .i64 0, .string (bs []), .slice none 0 0] 64 (0, 0)) ∧ w.heap.size ≤ g ∧ Below w.heap.size w w'
set_option maxRecDepth 100000 in
set_option maxHeartbeats 1000000 in
theorem new_disk (most room mode : Int) (w : World) (h1 : 1 ≤ most) (h2 : most ≤ 100) (h3 : 0 ≤ room) (h4 : room ≤ 1000) (h5 : 0 ≤ mode) (h6 : mode ≤ 63) : Calls Tryz.prog 9 #[.int .i64 most, .int .i64 room, .int .i64 mode] w fun e w' => NewDisk most room mode e w w' := by
  have hret : ∀ (W : World) (cs : Array Value) (fr), W.heap[w.heap.size]? = some (.cells cs 24 fr) → cs.size = 3 → ∀ tmps : Array Value, tmps.getD 6 undef = .pointer (some ⟨w.heap.size, 0, none⟩) → (results Tryz.f9 tmps).run Tryz.prog W = .ok (.agg cs) W := fun W cs fr h hs tmps ht =>
    results_cell_row (p := 6) (ty := 24) rfl tmps W w.heap.size _ cs fr _ ht h Tryz.underlying24 rfl (by rw [hs]; kernel_rfl)
  have H1 : Hid (withinB most 1 100 = true) := Lib.hid (by unfold withinB; simp; omega)
  have H2 : Hid (withinB room 0 1000 = true) := Lib.hid (by unfold withinB; simp; omega)
  have H3 : Hid (withinB mode 0 63 = true) := Lib.hid (by unfold withinB; simp; omega)
  clear h1 h2 h3 h4 h5 h6
  go_enter Tryz.func9, Tryz.ntmps9
  go_wp2_with fail
  refine (within_any _ _ _ _).mono ?_
  rintro e w1 ⟨rfl, rfl⟩
  rw [H1.out]
  go_wp2_with fail
  refine (within_any _ _ _ _).mono ?_
  rintro e w2 ⟨rfl, rfl⟩
  rw [H2.out]
  go_wp2_with fail
  refine (within_any _ _ _ _).mono ?_
  rintro e w3 ⟨rfl, rfl⟩
  rw [H3.out]
  go_wp2_with fail
  refine fresh2 (P := fun W => bodyPost _ _ _ _ _ W) ?_
  intro W0 hb0 hP hR hs0
  refine bodyPost_ret (hret _ _ _ hP rfl _ rfl) rfl ?_
  exact ⟨_, rfl, hR, Nat.le_succ _, hb0⟩
set_option maxRecDepth 100000 in
set_option maxHeartbeats 4000000 in
theorem pboot_c (X : Nat → Prop) (most room mode : Int) (w : World) (hX : Old X w) (h1 : 1 ≤ most) (h2 : most ≤ 100) (h3 : 0 ≤ room) (h4 : room ≤ 1000) (h5 : 0 ≤ mode) (h6 : mode ≤ 63) : Calls Tryz.prog 4 #[.int .i64 most, .int .i64 room, .int .i64 mode] w fun e w' => KernIs X (firstK most room mode) e w w' := by
  have S0 := Lib.hid (Sf.start (G := []) hX th0)
  have HX := Lib.hid hX
  have HRET : Hid (∀ (W : World) (cs : Array Value) (fr), W.heap[w.heap.size + 0]? = some (.cells cs 31 fr) → cs.size = 6 → ∀ tmps : Array Value, tmps.getD 6 undef = .pointer (some ⟨w.heap.size + 0, 0, none⟩) → (results Tryz.f4 tmps).run Tryz.prog W = .ok (.agg cs) W) := Lib.hid fun W cs fr h hs tmps ht =>
    results_cell_row (p := 6) (ty := 31) rfl tmps W (w.heap.size + 0) _ cs fr _ ht h Tryz.underlying31 rfl (by rw [hs]; kernel_rfl)
  have HN := fun W => Lib.hid (new_disk most room mode W h1 h2 h3 h4 h5 h6)
  clear hX h1 h2 h3 h4 h5 h6
  go_enter Tryz.func4, Tryz.ntmps4
  go_upto_region 1 with (fail)
  refine code_fresh1 ?_
  intro W1 hb hA0 hs
  have S1 := Lib.hid (S0.out.new1 hb hA0)
  clear hb hA0 hs
  go_wp2_with fail
  refine ((HN W1).out).mono ?_
  rintro e W2 ⟨g, rfl, hg, hge, hb⟩
  have S2 := Lib.hid (S1.out.news hb [(g, #[.int .i64 2, .int .i64 mode, .int .i64 0, .int .i64 1, .int .i64 0, .int .i64 0, .string (bs []), .slice none 0 0], 64)] (fun x hx => by rw [List.mem_singleton] at hx; subst hx; exact ⟨hg, hge⟩) (by simp))
  have HGE := Lib.hid (Nat.le_trans S1.out.bel.size hge)
  clear hg hge hb
  go_upto_region 2 with (first | (refine wpList_fresh1 ?_; intro W3 hb hn hs; have S3 := Lib.hid (S2.out.new1 hb hn); have h_d := S3.out.at 2 rfl; clear hb hn hs) | (refine wpList_store_row rfl 24 _ _ rfl _ rfl rfl h_d rfl (by kernel_rfl) rfl ?_; intro W4 hb hg hs hn; have S4 := Lib.hid (S3.out.set 2 rfl hb hg hs hn); clear hb hg hs hn))
  clear h_d
  obtain ⟨d0, -, -⟩ := cells3 (S4.out.at 2 rfl)
  go_upto_region 4 with (fail)
  clear d0
  have h_d := (S4.out.at 2 rfl)
  refine wp_region_held_drew (S := fun W => W.heap[W2.heap.size]? = some (.cells #[.slice (some ⟨g, 0, none⟩) 1 1, .int .i64 most, .int .i64 room] 24 (0, 0)) ∧ True) (by kernel_rfl) ⟨(S4.out.at 2 rfl), trivial⟩ (fun hHeld => ?_)
  clear h_d
  have S6 := Lib.hid (S4.out.call (Below.refl W4.heap.size W4).drew)
  generalize W4.drew = W6 at *
  refine wpAnyH_take (i := 0) rfl (by kernel_rfl) (by kernel_rfl) (by kernel_rfl) (fun _ _ _ h => h) (yieldsIf_load_row (by rfl) 24 _ rfl _ rfl 24 _ (0, 0) _ (fun _ h => h.1) Tryz.underlying24 rfl (by kernel_rfl)) hHeld ?_
  (try simp only [List.getElem_toArray]); (try simp only [List.getElem_cons_succ]); (try simp only [List.getElem_cons_zero]); (try simp only [Act.put]); (try simp only [List.setIfInBounds_toArray]); (try simp only [List.set_cons_succ]); (try simp only [List.set_cons_zero])
  refine wpAnyH_ready (rs := [1]) (by kernel_rfl) (by simp) ?_
  refine AllReadyH.cons rfl (fun K hK => ?_) AllReadyH.nil
  go_simp
  refine (pnew_c _ 8 W6 S6.out.oldX).mono ?_
  rintro e W7 ⟨vd, vf, rfl, hT, hb⟩
  have S7 := Lib.hid ((S6.out.call hb).more (TabX.firm _ _ _) hT)
  obtain ⟨ad, cd, af, cf, rfl, rfl⟩ := hT.form
  clear hb hHeld hT
  go_wp2_with fail
  refine hK.out _ _ ⟨(S7.out.at 2 rfl), trivial⟩ (fun hHeld => ?_)
  clear hK K
  (try simp only [List.getElem_toArray]); (try simp only [List.getElem_cons_succ]); (try simp only [List.getElem_cons_zero]); (try simp only [Act.put]); (try simp only [List.setIfInBounds_toArray]); (try simp only [List.set_cons_succ]); (try simp only [List.set_cons_zero])
  refine wpAnyH_take (i := 2) (v := ?v3) rfl (by kernel_rfl) (by kernel_rfl) (by kernel_rfl) (fun _ _ _ h => h) (Or.inl ⟨by rfl, ?hy3⟩) hHeld ?rest3
  case hy3 => (intro w hSw; (try dsimp only at hSw); (try go_split_ands); go_simp; first | done | with_reducible rfl)
  (try simp only [List.getElem_toArray]); (try simp only [List.getElem_cons_succ]); (try simp only [List.getElem_cons_zero]); (try simp only [Act.put]); (try simp only [List.setIfInBounds_toArray]); (try simp only [List.set_cons_succ]); (try simp only [List.set_cons_zero])
  refine wpAnyH_ready (rs := [3]) (by kernel_rfl) (by simp) ?_
  refine AllReadyH.cons rfl (fun K hK => ?_) AllReadyH.nil
  rw [if_pos (by rfl)]
  refine wp_store_row 31 _ _ rfl _ rfl rfl (S7.out.at 0 rfl) rfl (by kernel_rfl) rfl ?_
  intro W9 hb hg hs hn
  have S9 := Lib.hid (S7.out.set 0 rfl hb hg hs hn)
  clear hb hg hs hn hHeld
  refine hK.out _ _ ⟨(S9.out.at 2 rfl), trivial⟩ (fun hHeld => ?_)
  clear hK K
  (try simp only [List.getElem_toArray]); (try simp only [List.getElem_cons_succ]); (try simp only [List.getElem_cons_zero]); (try simp only [Act.put]); (try simp only [List.setIfInBounds_toArray]); (try simp only [List.set_cons_succ]); (try simp only [List.set_cons_zero])
  refine wpAnyH_done (by kernel_rfl) ?_ _
  go_wp2_with fail
  refine bodyPost_ret (HRET.out _ _ _ (S9.out.at 0 rfl) rfl _ rfl) rfl ?_
  exact ⟨some ⟨g, 0, none⟩, 1, ad, cd, af, cf, none, 0, rfl, disk_one (n := firstN mode) (S9.out.at 1 rfl) rfl (fun q hq => by have := HX.out q hq; have := HGE.out; omega), S9.out.gX 0 rfl, RdX.none0 _ _ _, S9.out.bel⟩

theorem heap_k3 {W : World} {b : Nat} {v0 v1 v2 v3 v4 v5 x0 x1 x2 : Value} {t : TypeId} (h : W.heap[b]? = some (.cells #[v0, v1, v2, v3, v4, v5] t (0, 0))) : (W.setCells b 0 [x0, x1, x2]).heap[b]? = some (.cells #[x0, x1, x2, v3, v4, v5] t (0, 0)) := by
  have h0 := heap_set (i := 0) (u := x0) h
  have h1 := heap_set (i := 1) (u := x1) h0
  have h2 := heap_set (i := 2) (u := x2) h1
  exact h2
theorem wpList_store_k3 {P : Program} {ops : Array Oper} {rest : List Oper} {op : Oper} {a : Act} {w : World} {Q : Exit → Act → World → Prop} (hgd : op.guard = none) (ty : TypeId) (x y : Operand) (ho : op.op = .store ty x y)
    (b : Nat) {v0 v1 v2 v3 v4 v5 x0 x1 x2 : Value} {t : TypeId} (hx : a.eval x = .pointer (some ⟨b, 0, none⟩)) (hy : a.eval y = .agg #[x0, x1, x2]) (hb : w.heap[b]? = some (.cells #[v0, v1, v2, v3, v4, v5] t (0, 0)))
    (hi : (P.info? ty).map (·.size) = some 3) (o0 : x0.oneCell' = true) (o1 : x1.oneCell' = true) (o2 : x2.oneCell' = true)
    (h : ∀ W', Below b w W' → (∀ g, g ≠ b → W'.heap[g]? = w.heap[g]?) → W'.heap.size = w.heap.size → W'.heap[b]? = some (.cells #[x0, x1, x2, v3, v4, v5] t (0, 0)) → wpList P ops Q rest (a.put op.dst undef) W') : wpList P ops Q (op :: rest) a w := by
  refine wpList_store_mid hgd ty x y ho b 0 #[x0, x1, x2] hx hy ?_ (by simpa using hi) ?_ ?_
  · intro j hj
    have hj' : j < 3 := hj
    have e : ∀ i, w.frozen? ⟨b, i, none⟩ = false := fun i => Lib.frozen_of_heap hb i
    refine ⟨?_, e _⟩
    have hc := cells6 hb
    match j, hj' with
    | 0, _ => rw [hc.1]; rfl
    | 1, _ => rw [hc.2.1]; rfl
    | 2, _ => rw [hc.2.2.1]; rfl
  · exact all_oneCell_toArray (cs := [x0, x1, x2]) fun v hv => by
      simp only [List.mem_cons, List.not_mem_nil, or_false] at hv
      rcases hv with rfl | rfl | rfl <;> assumption
  · exact h _ (below_setCells _ _ (Nat.le_refl _) _ _ _) (fun g hg => heap_setCells _ _ hg _ _ _) (size_setCells _ _ _ _) (heap_k3 hb)
end Go.Proofs.YtkoaicabkgaglaaGreatDoor
