import Derived.Test.YtilhiafmljmljaaDoorR26
namespace Go.Proofs.YtilhiafmljmljaaDoor
open Go.RowKit Go.Shelf
attribute [local go_sem ↓] Go.wp_at_zero Go.wp_at_succ
attribute [local go_sem] Oper.semAt_some wide_fn wide_depth
theorem HoldsF.keep {vd : Value} {most room i : Int} {p : Nm} {lv : Int} {b0 b1 b2 b3 : Nat} {W W' : World} (h : HoldsF vd most room i p lv b0 b1 b2 b3 W) (e0 : W'.heap[b0]? = W.heap[b0]?) (e1 : W'.heap[b1]? = W.heap[b1]?) (e2 : W'.heap[b2]? = W.heap[b2]?) (e3 : W'.heap[b3]? = W.heap[b3]?) : HoldsF vd most room i p lv b0 b1 b2 b3 W' :=
  ⟨e0.trans h.h0, e1.trans h.h1, e2.trans h.h2, e3.trans h.h3⟩
theorem HoldsF.kx {vd : Value} {most room i : Int} {p : Nm} {lv : Int} {b0 b1 b2 b3 : Nat} {W W' : World} {X : Nat → Prop} (h : HoldsF vd most room i p lv b0 b1 b2 b3 W) (hk : KeepX X W W') (x : X b0 ∧ X b1 ∧ X b2 ∧ X b3) : HoldsF vd most room i p lv b0 b1 b2 b3 W' :=
  h.keep (hk.blk _ x.1) (hk.blk _ x.2.1) (hk.blk _ x.2.2.1) (hk.blk _ x.2.2.2)
theorem Below.drewN' (W : World) (n : Nat) : Below W.heap.size W (W.drewN n) := ⟨rfl, rfl, rfl, Nat.le_refl _, fun _ _ => rfl⟩
theorem plcF_got {l : List NodeL} {u f : Nat} {i : Int} {p : Nm} (hg : gotB l i = true) : plcF l u (f + 1) i p = ⟨i, u - f, ⟨p, (nodeL l i).kind, (nodeL l i).mode, (nodeL l i).data⟩⟩ :: (if (nodeL l i).kind = 2 then (nodeL l i).names.flatMap fun e => plcF l u f e.2 (joinL p e.1) else []) := by
  rw [plcF, if_pos hg]
theorem getL_small {l : List NodeL} (h : ∀ n ∈ l, n.names.length ≤ 10000) (i : Int) : (getL l i).names.length ≤ 10000 := by
  unfold getL
  split
  · rename_i hg
    obtain ⟨k, rfl, hk, _⟩ := got_nat hg
    rw [at_nat l k hk]; exact h _ (List.getElem_mem hk)
  · exact Nat.zero_le _
theorem getL_names {l : List NodeL} (h : ∀ n ∈ l, ∀ e ∈ n.names, e.1.length ≤ 12) (i : Int) : ∀ e ∈ (getL l i).names, e.1.length ≤ 12 := by
  unfold getL
  split
  · rename_i hg
    obtain ⟨k, rfl, hk, _⟩ := got_nat hg
    rw [at_nat l k hk]; exact h _ (List.getElem_mem hk)
  · intro e he; cases he
theorem it_end {X : Nat → Prop} {w : World} {n : Nat} {P : Program} {fn : Func} {tmps : Array Value} {J : Thing} {B : List Bo} (ms : List Nat) (W : World) (S : It X w (marksB ms ++ B) J W) (hr : ∀ W', (results fn tmps).run P W' = .ok (.tuple #[]) W') :
    LeavesInM Fence.wide n P fn tmps (fun e W' => (∃ v, e = .returned v) ∧ J X W' ∧ KeepX X w W') (marksD ms) .returning W :=
  leaves_marks ms W S fun W' S' => ⟨_, hr W', ⟨_, rfl⟩, S'.firm.sub S'.j fun _ hg => .inl hg, S'.keep⟩
def FromP (ao : Option Addr) (cap : Nat) (ms : List NodeM) (most room : Int) (w0 : World) (f : Nat) : Prop :=
  f ≤ usedL (pl ms) → ∀ (i : Int) (p : Nm) (b0 b1 b2 b3 : Nat) (X0 : Nat → Prop) (w : World), p.length ≤ (usedL (pl ms) - f) * 13 → (∀ g, g < w0.heap.size → X0 g) → Below w0.heap.size w0 w → (X0 b0 ∧ X0 b1 ∧ X0 b2 ∧ X0 b3) →
      HoldsF (.slice ao ms.length cap) most room i p ((usedL (pl ms) + 1 - f : Nat) : Int) b0 b1 b2 b3 w →
      SeqIt Tryd.prog 36 #[.pointer (some ⟨b0, 0, none⟩), .pointer (some ⟨b1, 0, none⟩), .pointer (some ⟨b3, 0, none⟩), .pointer (some ⟨b2, 0, none⟩)] encL (plcF (pl ms) (usedL (pl ms)) f i p) X0 w
set_option maxRecDepth 100000 in
set_option maxHeartbeats 4000000 in
theorem from_step {ao : Option Addr} {cap : Nat} {ms : List NodeM} {most room : Int} {w0 : World} (hv : RdM w0.heap.size (.slice ao ms.length cap) ms w0) (hl : ms.length ≤ 1000) (hnl : ∀ n ∈ pl ms, n.names.length ≤ 10000) (hnm : ∀ n ∈ pl ms, ∀ e ∈ n.names, e.1.length ≤ 12)
    (f : Nat) (ih' : ∀ f', f = f' + 1 → FromP ao cap ms most room w0 f') : FromP ao cap ms most room w0 f := by
  have hul : usedL (pl ms) ≤ 1000 := by have := used_le (pl ms); rw [pl_len] at this; omega
  unfold FromP at ih' ⊢
  generalize hu : usedL (pl ms) = u at *
  have HU := Lib.hid hu
  clear hu
  intro hfu i p b0 b1 b2 b3 X0 w hp hX0 hbw xb hH l n J Y W hJ hk hXY hYo hY hJ0
  obtain ⟨lv, hlv⟩ : ∃ lv : Nat, lv = u + 1 - f := ⟨_, rfl⟩
  rw [← hlv] at hH
  have HLV := Lib.hid hlv
  clear hlv
  have yb : Y b0 ∧ Y b1 ∧ Y b2 ∧ Y b3 := ⟨hXY _ xb.1, hXY _ xb.2.1, hXY _ xb.2.2.1, hXY _ xb.2.2.2⟩
  have hHW := hH.kx hk xb
  have S0 := Lib.hid (It.start hYo (hJ []) hJ0)
  have hB0 : Below w0.heap.size w0 W := hbw.trans (hk.below hX0)
  refine calls_end Tryd.func36 rfl ?_
  simp only [Tryd.ntmps36, List.size_toArray, List.length_cons, List.length_nil, Nat.reduceAdd, Nat.reduceSub, Array.replicate_succ, Array.replicate_zero, List.push_toArray, List.append_toArray, List.nil_append, List.cons_append]
  go_upto_region 1 with (fail)
  refine code_fresh1 ?_
  intro W1 hb1 hA1 hs1
  have S1 := Lib.hid (S0.out.push hb1 hA1 (Nat.le_refl _))
  have hH1 := hHW.kx S1.out.keep yb
  have hB1 : Below w0.heap.size w0 W1 := hB0.trans (hb1.mono hB0.size)
  have hv1 : RdM W1.heap.size (.slice ao ms.length cap) ms W1 := (hv.below hB1).mono hB1.size
  clear hb1 hA1 hs1
  obtain ⟨d0, d1, d2⟩ := cells3 hH1.h0
  have c1 := Lib.cell_of_heap hH1.h1 0
  go_wp2_with fail
  refine (get_new _ ms most room i W1 hv1 (by omega) hnl).mono ?_
  rintro e W2 ⟨vn, rfl, hrn, hb2, hnew⟩
  obtain ⟨aon, capn, ev, _, _⟩ := Rd.form hrn
  dsimp only at ev
  subst ev
  obtain ⟨R, S2', hR⟩ := S1.out.row hb2 hrn hnew
  have S2 := Lib.hid S2'
  have HR := Lib.hid hR
  have HN := Lib.hid (show nodeL (pl ms) i = getL (pl ms) i from rfl)
  have hnn : (getL (pl ms) i).names.length ≤ 10000 := getL_small hnl i
  have hnl2 : ∀ e ∈ (getL (pl ms) i).names, e.1.length ≤ 12 := getL_names hnm i
  generalize getL (pl ms) i = nn at *
  have hB2 : Below w0.heap.size w0 W2 := hB1.trans (hb2.mono hB1.size)
  clear hrn hb2 hnew S2' hR d0 d1 d2 c1 hH1
  go_upto_region 2 with (first
    | (refine wpList_fresh1 ?_; intro W3 hb3 hA3 hs3; have S3 := Lib.hid (S2.out.push hb3 hA3 (Nat.le_refl _)); have h_n := S3.out.at 0 rfl; have hB3 : Below w0.heap.size w0 W3 := hB2.trans (hb3.mono hB2.size); have hs23 := hb3.size; clear hb3 hA3 hs3)
    | (refine wpList_store_row rfl 44 _ _ rfl _ rfl rfl h_n rfl (by kernel_rfl) rfl ?_; intro W4 hb4 hg4 hs4 hn4; have S4 := Lib.hid (S3.out.set hb4 hg4 hs4 hn4); have hB4 : Below w0.heap.size w0 W4 := hB3.trans (hb4.mono hB2.size); clear hb4 hg4 hn4))
  clear S1 S3 h_n hB3 hs23 hs4
  cases hg : gotB (pl ms) i with
  | false =>
    have HL : Hid (plcF (pl ms) u f i p = []) := Lib.hid (plcF_no hg)
    clear hg
    go_quiet (fail)
    go_wp2_with fail
    rw [HL.out]
    exact it_end [] _ (S4.out.call (Below.drewN' _ _)) fun _ => results_none rfl _ _ _
  | true =>
    rcases f with _ | f
    · have q1 : decide ((u : Int) < (lv : Int)) = true := decide_eq_true (by have := HLV.out; omega)
      have q2 : decide (u < lv) = true := decide_eq_true (by have := HLV.out; omega)
      have hH4 := hHW.kx S4.out.keep yb
      refine wp_region_held_drew (S := fun V => V.cell? ⟨b3, 0, none⟩ = some (.int .i64 (lv : Int)) ∧ V.heap[b0]? = some (.cells #[.slice ao ms.length cap, .int .i64 most, .int .i64 room] 24 (0, 0)) ∧ True) (by kernel_rfl) ⟨Lib.cell_of_heap hH4.h3 0, hH4.h0, trivial⟩ (fun hHeld => ?_)
      have S5 := Lib.hid (S4.out.call (Below.refl W4.heap.size W4).drew)
      have hB5 : Below w0.heap.size w0 W4.drew := hB4.drew
      generalize W4.drew = W5 at *
      clear S4 hH4
      refine wpAnyH_take (i := 0) (v := ?v1) rfl (by kernel_rfl) (by kernel_rfl) (by kernel_rfl) (fun _ _ _ h => h) (Or.inl ⟨by rfl, ?hy1⟩) hHeld ?rest1
      case hy1 => (intro w hSw; (try dsimp only at hSw); (try go_split_ands); go_simp; first | done | with_reducible rfl)
      (try simp only [List.getElem_toArray]); (try simp only [List.getElem_cons_succ]); (try simp only [List.getElem_cons_zero]); (try simp only [Act.put]); (try simp only [List.setIfInBounds_toArray]); (try simp only [List.set_cons_succ]); (try simp only [List.set_cons_zero])
      refine wpAnyH_take (i := 1) (v := ?v2) rfl (by kernel_rfl) (by kernel_rfl) (by kernel_rfl) (fun _ _ _ h => h) (Or.inl ⟨by rfl, ?hy2⟩) hHeld ?rest2
      case hy2 => (intro w hSw; (try dsimp only at hSw); (try go_split_ands); go_simp; first | done | with_reducible rfl)
      (try simp only [List.getElem_toArray]); (try simp only [List.getElem_cons_succ]); (try simp only [List.getElem_cons_zero]); (try simp only [Act.put]); (try simp only [List.setIfInBounds_toArray]); (try simp only [List.set_cons_succ]); (try simp only [List.set_cons_zero])
      refine wpAnyH_take (i := 2) (v := ?v3) rfl (by kernel_rfl) (by kernel_rfl) (by kernel_rfl) (fun _ _ _ h => h) (Or.inl ⟨by rfl, ?hy3⟩) hHeld ?rest3
      case hy3 => (intro w hSw; (try dsimp only at hSw); (try go_split_ands); go_simp; first | done | with_reducible rfl)
      (try simp only [List.getElem_toArray]); (try simp only [List.getElem_cons_succ]); (try simp only [List.getElem_cons_zero]); (try simp only [Act.put]); (try simp only [List.setIfInBounds_toArray]); (try simp only [List.set_cons_succ]); (try simp only [List.set_cons_zero])
      refine wpAnyH_take (i := 3) (v := ?v4) rfl (by kernel_rfl) (by kernel_rfl) (by kernel_rfl) (fun _ _ _ h => h) (Or.inl ⟨by rfl, ?hy4⟩) hHeld ?rest4
      case hy4 => (intro w hSw; (try dsimp only at hSw); (try go_split_ands); go_simp; first | done | with_reducible rfl)
      (try simp only [List.getElem_toArray]); (try simp only [List.getElem_cons_succ]); (try simp only [List.getElem_cons_zero]); (try simp only [Act.put]); (try simp only [List.setIfInBounds_toArray]); (try simp only [List.set_cons_succ]); (try simp only [List.set_cons_zero])
      refine wpAnyH_take (i := 4) rfl (by kernel_rfl) (by kernel_rfl) (by kernel_rfl) (fun _ _ _ h => h) (yieldsIf_load_row (by rfl) 24 _ rfl _ rfl 24 _ (0, 0) _ (fun _ h => h.2.1) Tryd.underlying24 rfl (by kernel_rfl)) hHeld ?_
      (try simp only [List.getElem_toArray]); (try simp only [List.getElem_cons_succ]); (try simp only [List.getElem_cons_zero]); (try simp only [Act.put]); (try simp only [List.setIfInBounds_toArray]); (try simp only [List.set_cons_succ]); (try simp only [List.set_cons_zero])
      refine wpAnyH_ready (rs := [5]) (by kernel_rfl) (by simp) ?_
      refine AllReadyH.cons rfl (fun K hK => ?_) AllReadyH.nil
      go_simp
      have hv5 : RdM W5.heap.size (.slice ao ms.length cap) ms W5 := (hv.below hB5).mono hB5.size
      refine (used_any _ ms most room W5 hv5 (by omega)).mono ?_
      rintro e W6 ⟨rfl, hb6⟩
      rw [HU.out]
      have S6 := Lib.hid (S5.out.call hb6)
      have hB6 : Below w0.heap.size w0 W6 := hB5.trans (hb6.mono hB5.size)
      have hH6 := hHW.kx S6.out.keep yb
      clear hb6 hHeld S5 hv5
      go_wp2_with fail
      refine hK.out _ _ ⟨Lib.cell_of_heap hH6.h3 0, hH6.h0, trivial⟩ (fun hHeld => ?_)
      clear hK K hH6
      (try simp only [List.getElem_toArray]); (try simp only [List.getElem_cons_succ]); (try simp only [List.getElem_cons_zero]); (try simp only [Act.put]); (try simp only [List.setIfInBounds_toArray]); (try simp only [List.set_cons_succ]); (try simp only [List.set_cons_zero])
      refine wpAnyH_take (i := 6) (v := ?v5) rfl (by kernel_rfl) (by kernel_rfl) (by kernel_rfl) (fun _ _ _ h => h) (Or.inl ⟨by rfl, ?hy5⟩) hHeld ?rest5
      case hy5 => (intro w hSw; (try dsimp only at hSw); (try go_split_ands); go_simp; first | done | with_reducible rfl)
      (try simp only [List.getElem_toArray]); (try simp only [List.getElem_cons_succ]); (try simp only [List.getElem_cons_zero]); (try simp only [Act.put]); (try simp only [List.setIfInBounds_toArray]); (try simp only [List.set_cons_succ]); (try simp only [List.set_cons_zero])
      refine wpAnyH_take (i := 7) (v := ?v6) rfl (by kernel_rfl) (by kernel_rfl) (by kernel_rfl) (fun _ _ _ h => h) (Or.inl ⟨by rfl, ?hy6⟩) hHeld ?rest6
      case hy6 => (intro w hSw; (try dsimp only at hSw); (try go_split_ands); go_simp; first | done | with_reducible rfl)
      (try simp only [List.getElem_toArray]); (try simp only [List.getElem_cons_succ]); (try simp only [List.getElem_cons_zero]); (try simp only [Act.put]); (try simp only [List.setIfInBounds_toArray]); (try simp only [List.set_cons_succ]); (try simp only [List.set_cons_zero])
      refine wpAnyH_done (by kernel_rfl) ?_ _
      go_wp2_with fail
      rw [show plcF (pl ms) u 0 i p = [] from rfl]
      exact it_end [] _ S6.out fun _ => results_none rfl _ _ _
    · have q1 : decide ((u : Int) < (lv : Int)) = false := decide_eq_false (by have := HLV.out; omega)
      have q2 : decide (u < lv) = false := decide_eq_false (by have := HLV.out; omega)
      have hH4 := hHW.kx S4.out.keep yb
      refine wp_region_held_drew (S := fun V => V.cell? ⟨b3, 0, none⟩ = some (.int .i64 (lv : Int)) ∧ V.heap[b0]? = some (.cells #[.slice ao ms.length cap, .int .i64 most, .int .i64 room] 24 (0, 0)) ∧ True) (by kernel_rfl) ⟨Lib.cell_of_heap hH4.h3 0, hH4.h0, trivial⟩ (fun hHeld => ?_)
      have S5 := Lib.hid (S4.out.call (Below.refl W4.heap.size W4).drew)
      have hB5 : Below w0.heap.size w0 W4.drew := hB4.drew
      generalize W4.drew = W5 at *
      clear S4 hH4
      refine wpAnyH_take (i := 0) (v := ?v7) rfl (by kernel_rfl) (by kernel_rfl) (by kernel_rfl) (fun _ _ _ h => h) (Or.inl ⟨by rfl, ?hy7⟩) hHeld ?rest7
      case hy7 => (intro w hSw; (try dsimp only at hSw); (try go_split_ands); go_simp; first | done | with_reducible rfl)
      (try simp only [List.getElem_toArray]); (try simp only [List.getElem_cons_succ]); (try simp only [List.getElem_cons_zero]); (try simp only [Act.put]); (try simp only [List.setIfInBounds_toArray]); (try simp only [List.set_cons_succ]); (try simp only [List.set_cons_zero])
      refine wpAnyH_take (i := 1) (v := ?v8) rfl (by kernel_rfl) (by kernel_rfl) (by kernel_rfl) (fun _ _ _ h => h) (Or.inl ⟨by rfl, ?hy8⟩) hHeld ?rest8
      case hy8 => (intro w hSw; (try dsimp only at hSw); (try go_split_ands); go_simp; first | done | with_reducible rfl)
      (try simp only [List.getElem_toArray]); (try simp only [List.getElem_cons_succ]); (try simp only [List.getElem_cons_zero]); (try simp only [Act.put]); (try simp only [List.setIfInBounds_toArray]); (try simp only [List.set_cons_succ]); (try simp only [List.set_cons_zero])
      refine wpAnyH_take (i := 2) (v := ?v9) rfl (by kernel_rfl) (by kernel_rfl) (by kernel_rfl) (fun _ _ _ h => h) (Or.inl ⟨by rfl, ?hy9⟩) hHeld ?rest9
      case hy9 => (intro w hSw; (try dsimp only at hSw); (try go_split_ands); go_simp; first | done | with_reducible rfl)
      (try simp only [List.getElem_toArray]); (try simp only [List.getElem_cons_succ]); (try simp only [List.getElem_cons_zero]); (try simp only [Act.put]); (try simp only [List.setIfInBounds_toArray]); (try simp only [List.set_cons_succ]); (try simp only [List.set_cons_zero])
      refine wpAnyH_take (i := 3) (v := ?v10) rfl (by kernel_rfl) (by kernel_rfl) (by kernel_rfl) (fun _ _ _ h => h) (Or.inl ⟨by rfl, ?hy10⟩) hHeld ?rest10
      case hy10 => (intro w hSw; (try dsimp only at hSw); (try go_split_ands); go_simp; first | done | with_reducible rfl)
      (try simp only [List.getElem_toArray]); (try simp only [List.getElem_cons_succ]); (try simp only [List.getElem_cons_zero]); (try simp only [Act.put]); (try simp only [List.setIfInBounds_toArray]); (try simp only [List.set_cons_succ]); (try simp only [List.set_cons_zero])
      refine wpAnyH_take (i := 4) rfl (by kernel_rfl) (by kernel_rfl) (by kernel_rfl) (fun _ _ _ h => h) (yieldsIf_load_row (by rfl) 24 _ rfl _ rfl 24 _ (0, 0) _ (fun _ h => h.2.1) Tryd.underlying24 rfl (by kernel_rfl)) hHeld ?_
      (try simp only [List.getElem_toArray]); (try simp only [List.getElem_cons_succ]); (try simp only [List.getElem_cons_zero]); (try simp only [Act.put]); (try simp only [List.setIfInBounds_toArray]); (try simp only [List.set_cons_succ]); (try simp only [List.set_cons_zero])
      refine wpAnyH_ready (rs := [5]) (by kernel_rfl) (by simp) ?_
      refine AllReadyH.cons rfl (fun K hK => ?_) AllReadyH.nil
      go_simp
      have hv5 : RdM W5.heap.size (.slice ao ms.length cap) ms W5 := (hv.below hB5).mono hB5.size
      refine (used_any _ ms most room W5 hv5 (by omega)).mono ?_
      rintro e W6 ⟨rfl, hb6⟩
      rw [HU.out]
      have S6 := Lib.hid (S5.out.call hb6)
      have hB6 : Below w0.heap.size w0 W6 := hB5.trans (hb6.mono hB5.size)
      have hH6 := hHW.kx S6.out.keep yb
      clear hb6 hHeld S5 hv5
      go_wp2_with fail
      refine hK.out _ _ ⟨Lib.cell_of_heap hH6.h3 0, hH6.h0, trivial⟩ (fun hHeld => ?_)
      clear hK K hH6
      (try simp only [List.getElem_toArray]); (try simp only [List.getElem_cons_succ]); (try simp only [List.getElem_cons_zero]); (try simp only [Act.put]); (try simp only [List.setIfInBounds_toArray]); (try simp only [List.set_cons_succ]); (try simp only [List.set_cons_zero])
      refine wpAnyH_take (i := 6) (v := ?v11) rfl (by kernel_rfl) (by kernel_rfl) (by kernel_rfl) (fun _ _ _ h => h) (Or.inl ⟨by rfl, ?hy11⟩) hHeld ?rest11
      case hy11 => (intro w hSw; (try dsimp only at hSw); (try go_split_ands); go_simp; first | done | with_reducible rfl)
      (try simp only [List.getElem_toArray]); (try simp only [List.getElem_cons_succ]); (try simp only [List.getElem_cons_zero]); (try simp only [Act.put]); (try simp only [List.setIfInBounds_toArray]); (try simp only [List.set_cons_succ]); (try simp only [List.set_cons_zero])
      refine wpAnyH_take (i := 7) (v := ?v12) rfl (by kernel_rfl) (by kernel_rfl) (by kernel_rfl) (fun _ _ _ h => h) (Or.inl ⟨by rfl, ?hy12⟩) hHeld ?rest12
      case hy12 => (intro w hSw; (try dsimp only at hSw); (try go_split_ands); go_simp; first | done | with_reducible rfl)
      (try simp only [List.getElem_toArray]); (try simp only [List.getElem_cons_succ]); (try simp only [List.getElem_cons_zero]); (try simp only [Act.put]); (try simp only [List.setIfInBounds_toArray]); (try simp only [List.set_cons_succ]); (try simp only [List.set_cons_zero])
      refine wpAnyH_done (by kernel_rfl) ?_ _
      have ih := ih' f rfl
      go_upto_region 3 with (fail)
      obtain ⟨x0, hx0⟩ : ∃ x0 : PlcL, x0 = ⟨i, lv, ⟨p, nn.kind, nn.mode, nn.data⟩⟩ := ⟨_, rfl⟩
      obtain ⟨T, hT⟩ : ∃ T, T = if nn.kind = 2 then nn.names.flatMap fun e => plcF (pl ms) u f e.2 (joinL p e.1) else [] := ⟨_, rfl⟩
      have hL : plcF (pl ms) u (f + 1) i p = x0 :: T := by rw [hT, hx0, show lv = u - f by have := HLV.out; omega, ← HN.out]; exact plcF_got hg
      have hy0 := hY [] x0 _ W6 0 (fun _ h => .inl h) S6.out.oldX S6.out.j (by rw [hL]; simp)
      have HL := Lib.hid hL
      have HT := Lib.hid hT
      have hex : encL x0 = #[.agg #[.int .i64 i, .int .i64 lv, .string (bs p), .int .i64 nn.kind, .int .i64 nn.mode, .string (bs nn.data)]] := by rw [hx0]; rfl
      rw [hex] at hy0
      obtain ⟨fn, tm, asg, bd, hy, hRd⟩ := hy0
      clear hL hT hx0 hex hg
      have hH6 := hHW.kx S6.out.keep yb
      have h_y := (S6.out.blk (W.heap.size, .cells #[.func (.yield l) #[] #[]] 92) (by simp)).1
      have h_n := S6.out.at 0 rfl
      have cy := Lib.cell_of_heap h_y 0
      have c1 := Lib.cell_of_heap hH6.h1 0
      have c2 := Lib.cell_of_heap hH6.h2 0
      have c3 := Lib.cell_of_heap hH6.h3 0
      obtain ⟨n0, n1, n2, n3, n4, n5, n6, n7⟩ := cells8 h_n
      refine (wpIn_wide (n := 0)).1 ?_
      gi_wp2
      refine hRd.mono ?_
      rintro e W7 ⟨rfl, hj7, hk7⟩
      rw [List.nil_append] at hj7
      have S7 := Lib.hid (S6.out.round hk7 (hJ _) hj7)
      have hB7 : Below w0.heap.size w0 W7 := hB6.trans (hk7.below fun g hg => .inl (hXY _ (hX0 g hg)))
      clear hj7 hk7 hRd hy cy c1 c2 c3 h_n h_y n0 n1 n2 n3 n4 n5 n6 n7 hH6 S6
      have n0 := (cells8 (S7.out.at 0 rfl)).1
      by_cases h2 : nn.kind = 2
      · have e1 : (nn.kind != 2) = false := by simpa using h2
        have e2 : decide (nn.kind = 2) = true := decide_eq_true h2
        have n7 := (cells8 (S7.out.at 0 rfl)).2.2.2.2.2.2.2
        rw [if_pos h2] at HT
        clear h2
        have HNL := Lib.hid hnn
        gi_wp2
        go_wp2_with fail
        refine wp_loop (fun a' wr => ∃ (k : Nat) (mk : List Nat) (u9 u48 u49 u50 u51 u52 u53 u54 u55 u56 u57 u58 u59 u60 u66 : Value), a' = { tmps := #[.func (.yield l) #[] #[], .pointer (some ⟨b0, 0, none⟩), .pointer (some ⟨b1, 0, none⟩), .pointer (some ⟨b3, 0, none⟩), .pointer (some ⟨b2, 0, none⟩), .pointer (some ⟨W.heap.size, 0, none⟩), .pointer (some ⟨W2.heap.size, 0, none⟩), .bool true, undef, u9, undef, .tuple #[nval nn (.slice aon nn.names.length capn), .bool true], .agg #[.slice ao ms.length cap, .int .i64 most, .int .i64 room], .int .i64 i, .tuple #[nval nn (.slice aon nn.names.length capn), .bool true], nval nn (.slice aon nn.names.length capn), .bool true, .bool true, .bool false, .bool false, .int .i64 lv, .agg #[.slice ao ms.length cap, .int .i64 most, .int .i64 room], .int .i64 u, .bool false, .bool false, .func (.yield l) #[] #[], .int .i64 i, .int .i64 lv, .string (bs p), .pointer (some ⟨W2.heap.size, 0, none⟩), .int .i64 nn.kind, .pointer (some ⟨W2.heap.size, 1, none⟩), .int .i64 nn.mode, .pointer (some ⟨W2.heap.size, 6, none⟩), .string (bs nn.data), .agg #[.string (bs p), .int .i64 nn.kind, .int .i64 nn.mode, .string (bs nn.data)], .agg #[.int .i64 i, .int .i64 lv, .string (bs p), .int .i64 nn.kind, .int .i64 nn.mode, .string (bs nn.data)], .bool true, .bool false, .bool false, .pointer (some ⟨W2.heap.size, 0, none⟩), .int .i64 nn.kind, .bool false, .bool false, .pointer (some ⟨W2.heap.size, 7, none⟩), .slice aon nn.names.length capn, .int .i64 nn.names.length, .int .i64 k, u48, u49, u50, u51, u52, u53, u54, u55, u56, u57, u58, u59, u60, undef, undef, undef, undef, undef, u66], defers := marksD mk } ∧ k ≤ nn.names.length ∧ Hid (It Y W (marksB mk ++ (W2.heap.size, Obj.cells #[.int .i64 nn.kind, .int .i64 nn.mode, .int .i64 nn.owner, .int .i64 nn.links, .int .i64 nn.opn, .int .i64 nn.up, .string (bs nn.data), .slice aon nn.names.length capn] 44) :: (R ++ [(W.heap.size, Obj.cells #[.func (.yield l) #[] #[]] 92)])) (J (x0 :: (nn.names.take k).flatMap (fun e : EntL => plcF (pl ms) u f e.2 (joinL p e.1)))) wr)) (fun a' _ => nn.names.length - (RowKit.intOf (a'.tmps.getD 47 undef)).toNat) ?start ?round
        case start => exact ⟨0, [], _, _, _, _, _, _, _, _, _, _, _, _, _, _, _, rfl, Nat.zero_le _, S7⟩
        case round =>
          clear S7 n0 n7 e1 e2 hB7 hB6 hB5 hB4 hB2 hB1
          rintro a' wr ⟨k, mk, u9, u48, u49, u50, u51, u52, u53, u54, u55, u56, u57, u58, u59, u60, u66, rfl, hk, S8⟩
          by_cases hlt : k < nn.names.length
          · have iL : decide (k < nn.names.length) = true := decide_eq_true hlt
            have iL2 : decide ((k : Int) < (nn.names.length : Int)) = true := decide_eq_true (by omega)
            have k0 : (0 : Int) ≤ (k : Int) := by omega
            have k1 : (k : Int) < (nn.names.length : Int) := by omega
            have wk : IntKind.i64.wrap ((k : Int) + 1) = (k : Int) + 1 := Go.IntWalk.i64_in _ (by have := HNL.out; omega)
            have wlv : IntKind.i64.wrap ((lv : Int) + 1) = (lv : Int) + 1 := Go.IntWalk.i64_in _ (by have := HLV.out; omega)
            dsimp only
            have hmR : ∀ x ∈ R, wr.heap[x.1]? = some x.2 := fun x hx => (S8.out.blk x (by simp [hx])).1
            have hsz : W2.heap.size < wr.heap.size := lt_some (S8.out.blk (W2.heap.size, Obj.cells #[.int .i64 nn.kind, .int .i64 nn.mode, .int .i64 nn.owner, .int .i64 nn.links, .int .i64 nn.opn, .int .i64 nn.up, .string (bs nn.data), .slice aon nn.names.length capn] 44) (by simp)).1
            have hrd := HR.out wr hmR (by omega)
            obtain ⟨bN, oN, cN, eN, _, _, hbN, _, hcell⟩ := Rd.at hrd (show 0 < nn.names.length by omega)
            dsimp only at eN
            injection eN with eN1 _ eN2
            subst eN1
            subst eN2
            obtain ⟨en, hen⟩ : ∃ en, en = nn.names[k] := ⟨_, rfl⟩
            have ce0 := hcell _ _ (ents_at0 nn.names k hlt)
            have ce1 := hcell _ _ (ents_at1 nn.names k hlt)
            rw [← hen] at ce0 ce1
            rw [← Nat.add_assoc] at ce1
            have HE := Lib.hid hen
            clear hen hrd hcell hmR
            have hBr : Below w0.heap.size w0 wr := hB0.trans (S8.out.keep.below fun g hg => hXY _ (hX0 g hg))
            go_upto_region 6 with (fail)
            go_upto_region 7 with (first
              | (refine wpList_fresh1 ?_; intro W9 hb9 hA9 hs9; have S9 := Lib.hid (S8.out.push hb9 hA9 (Nat.le_refl _)); have h_e := S9.out.at 0 rfl; have hlt9 : wr.heap.size < W9.heap.size := by omega
                 clear hb9 hA9 hs9)
              | (refine wpList_store_row rfl 47 _ _ rfl _ rfl rfl h_e rfl (by kernel_rfl) rfl ?_; intro W10 hb10 hg10 hs10 hn10; have S10 := Lib.hid (S9.out.set hb10 hg10 hs10 hn10); clear hb10 hg10 hs10 hn10))
            (try simp only [List.getElem_toArray]); (try simp only [List.getElem_cons_succ]); (try simp only [List.getElem_cons_zero]); (try simp only [Act.put]); (try simp only [List.setIfInBounds_toArray]); (try simp only [List.set_cons_succ]); (try simp only [List.set_cons_zero])
            clear S9 h_e hlt9 ce0 ce1 iL iL2 k0 k1
            have hH10 := hHW.kx S10.out.keep yb
            refine wp_region_held_drew (S := fun V => V.cell? ⟨b3, 0, none⟩ = some (.int .i64 (lv : Int)) ∧ V.cell? ⟨b2, 0, none⟩ = some (.string (bs p)) ∧ V.cell? ⟨wr.heap.size, 0, none⟩ = some (.string (bs en.1)) ∧ V.cell? ⟨wr.heap.size, 1, none⟩ = some (.int .i64 en.2) ∧ V.heap[b0]? = some (.cells #[.slice ao ms.length cap, .int .i64 most, .int .i64 room] 24 (0, 0)) ∧ True) (by kernel_rfl) ⟨Lib.cell_of_heap hH10.h3 0, Lib.cell_of_heap hH10.h2 0, (cells2 (S10.out.at 0 rfl)).1, (cells2 (S10.out.at 0 rfl)).2, hH10.h0, trivial⟩ (fun hHeld => ?_)
            have S11 := Lib.hid (S10.out.call (Below.refl W10.heap.size W10).drew)
            have hs11 : W10.heap.size ≤ W10.drew.heap.size := Nat.le_refl _
            generalize W10.drew = W11 at *
            clear S10 hH10 hs11
            refine wpAnyH_take (i := 1) (v := ?v13) rfl (by kernel_rfl) (by kernel_rfl) (by kernel_rfl) (fun _ _ _ h => h) (Or.inl ⟨by rfl, ?hy13⟩) hHeld ?rest13
            case hy13 => (intro w hSw; (try dsimp only at hSw); (try go_split_ands); go_simp; first | done | with_reducible rfl)
            (try simp only [List.getElem_toArray]); (try simp only [List.getElem_cons_succ]); (try simp only [List.getElem_cons_zero]); (try simp only [Act.put]); (try simp only [List.setIfInBounds_toArray]); (try simp only [List.set_cons_succ]); (try simp only [List.set_cons_zero])
            refine wpAnyH_take (i := 2) (v := ?v14) rfl (by kernel_rfl) (by kernel_rfl) (by kernel_rfl) (fun _ _ _ h => h) (Or.inl ⟨by rfl, ?hy14⟩) hHeld ?rest14
            case hy14 => (intro w hSw; (try dsimp only at hSw); (try go_split_ands); go_simp; first | done | with_reducible rfl)
            (try simp only [List.getElem_toArray]); (try simp only [List.getElem_cons_succ]); (try simp only [List.getElem_cons_zero]); (try simp only [Act.put]); (try simp only [List.setIfInBounds_toArray]); (try simp only [List.set_cons_succ]); (try simp only [List.set_cons_zero])
            refine wpAnyH_take (i := 3) (v := ?v15) rfl (by kernel_rfl) (by kernel_rfl) (by kernel_rfl) (fun _ _ _ h => h) (Or.inl ⟨by rfl, ?hy15⟩) hHeld ?rest15
            case hy15 => (intro w hSw; (try dsimp only at hSw); (try go_split_ands); go_simp; first | done | with_reducible rfl)
            (try simp only [List.getElem_toArray]); (try simp only [List.getElem_cons_succ]); (try simp only [List.getElem_cons_zero]); (try simp only [Act.put]); (try simp only [List.setIfInBounds_toArray]); (try simp only [List.set_cons_succ]); (try simp only [List.set_cons_zero])
            refine wpAnyH_take (i := 4) (v := ?v16) rfl (by kernel_rfl) (by kernel_rfl) (by kernel_rfl) (fun _ _ _ h => h) (Or.inl ⟨by rfl, ?hy16⟩) hHeld ?rest16
            case hy16 => (intro w hSw; (try dsimp only at hSw); (try go_split_ands); go_simp; first | done | with_reducible rfl)
            (try simp only [List.getElem_toArray]); (try simp only [List.getElem_cons_succ]); (try simp only [List.getElem_cons_zero]); (try simp only [Act.put]); (try simp only [List.setIfInBounds_toArray]); (try simp only [List.set_cons_succ]); (try simp only [List.set_cons_zero])
            refine wpAnyH_take (i := 5) (v := ?v17) rfl (by kernel_rfl) (by kernel_rfl) (by kernel_rfl) (fun _ _ _ h => h) (Or.inl ⟨by rfl, ?hy17⟩) hHeld ?rest17
            case hy17 => (intro w hSw; (try dsimp only at hSw); (try go_split_ands); go_simp; first | done | with_reducible rfl)
            (try simp only [List.getElem_toArray]); (try simp only [List.getElem_cons_succ]); (try simp only [List.getElem_cons_zero]); (try simp only [Act.put]); (try simp only [List.setIfInBounds_toArray]); (try simp only [List.set_cons_succ]); (try simp only [List.set_cons_zero])
            refine wpAnyH_take (i := 7) (v := ?v18) rfl (by kernel_rfl) (by kernel_rfl) (by kernel_rfl) (fun _ _ _ h => h) (Or.inl ⟨by rfl, ?hy18⟩) hHeld ?rest18
            case hy18 => (intro w hSw; (try dsimp only at hSw); (try go_split_ands); go_simp; first | done | with_reducible rfl)
            (try simp only [List.getElem_toArray]); (try simp only [List.getElem_cons_succ]); (try simp only [List.getElem_cons_zero]); (try simp only [Act.put]); (try simp only [List.setIfInBounds_toArray]); (try simp only [List.set_cons_succ]); (try simp only [List.set_cons_zero])
            refine wpAnyH_take (i := 8) (v := ?v19) rfl (by kernel_rfl) (by kernel_rfl) (by kernel_rfl) (fun _ _ _ h => h) (Or.inl ⟨by rfl, ?hy19⟩) hHeld ?rest19
            case hy19 => (intro w hSw; (try dsimp only at hSw); (try go_split_ands); go_simp; first | done | with_reducible rfl)
            (try simp only [List.getElem_toArray]); (try simp only [List.getElem_cons_succ]); (try simp only [List.getElem_cons_zero]); (try simp only [Act.put]); (try simp only [List.setIfInBounds_toArray]); (try simp only [List.set_cons_succ]); (try simp only [List.set_cons_zero])
            refine wpAnyH_take (i := 0) rfl (by kernel_rfl) (by kernel_rfl) (by kernel_rfl) (fun _ _ _ h => h) (yieldsIf_load_row (by rfl) 24 _ rfl _ rfl 24 _ (0, 0) _ (fun _ h => h.2.2.2.2.1) Tryd.underlying24 rfl (by kernel_rfl)) hHeld ?_
            (try simp only [List.getElem_toArray]); (try simp only [List.getElem_cons_succ]); (try simp only [List.getElem_cons_zero]); (try simp only [Act.put]); (try simp only [List.setIfInBounds_toArray]); (try simp only [List.set_cons_succ]); (try simp only [List.set_cons_zero])
            refine wpAnyH_ready (rs := [6]) (by kernel_rfl) (by simp) ?_
            refine AllReadyH.cons rfl (fun K hK => ?_) AllReadyH.nil
            go_simp
            have hle : en.1.length ≤ 12 := hnl2 _ (by rw [HE.out]; exact List.getElem_mem hlt)
            have hpl : p.length ≤ 13000 := by omega
            refine (join_any (bs p) (bs en.1) (by rw [bs_size]; omega) (by rw [bs_size]; omega) W11).mono ?_
            rintro e W12 ⟨rfl, rfl⟩
            rw [bs_list, bs_list]
            have hH11 := hHW.kx S11.out.keep yb
            refine hK.out _ _ ⟨Lib.cell_of_heap hH11.h3 0, Lib.cell_of_heap hH11.h2 0, (cells2 (S11.out.at 0 rfl)).1, (cells2 (S11.out.at 0 rfl)).2, hH11.h0, trivial⟩ (fun hHeld => ?_)
            clear hK K hH11
            (try simp only [List.getElem_toArray]); (try simp only [List.getElem_cons_succ]); (try simp only [List.getElem_cons_zero]); (try simp only [Act.put]); (try simp only [List.setIfInBounds_toArray]); (try simp only [List.set_cons_succ]); (try simp only [List.set_cons_zero])
            refine wpAnyH_ready (rs := [9]) (by kernel_rfl) (by simp) ?_
            refine AllReadyH.cons rfl (fun K hK => ?_) AllReadyH.nil
            go_simp
            refine (from_c ao ms.length cap most room en.2 (joinL p en.1) ((lv : Int) + 1) W12).mono ?_
            rintro e W13 ⟨rfl, hb13, hF13, hs13⟩
            skip
            have S13 := Lib.hid (S11.out.drop.news hb13 [(W12.heap.size, Obj.cells #[.slice ao ms.length cap, .int .i64 most, .int .i64 room] 24), (W12.heap.size + 1, Obj.cells #[.int .i64 en.2] 3), (W12.heap.size + 2, Obj.cells #[.string (bs (joinL p en.1))] 9), (W12.heap.size + 3, Obj.cells #[.int .i64 ((lv : Int) + 1)] 3)] (fun x hx => by simp only [List.mem_cons, List.not_mem_nil, or_false] at hx; rcases hx with rfl | rfl | rfl | rfl; exact ⟨hF13.h0, Nat.le_refl _⟩; exact ⟨hF13.h1, Nat.le_add_right _ _⟩; exact ⟨hF13.h2, Nat.le_add_right _ _⟩; exact ⟨hF13.h3, Nat.le_add_right _ _⟩) (by simp))
            have S13e := Lib.hid (S11.out.call hb13)
            have hH13 := hHW.kx S13e.out.keep yb
            have hF : HoldsF (.slice ao ms.length cap) most room en.2 (joinL p en.1) ((u + 1 - f : Nat) : Int) W12.heap.size (W12.heap.size + 1) (W12.heap.size + 2) (W12.heap.size + 3) W13 := by
              rw [show ((u + 1 - f : Nat) : Int) = (lv : Int) + 1 by have := HLV.out; omega]
              exact hF13
            have hB13 : Below w0.heap.size w0 W13 := hB0.trans (S13e.out.keep.below fun g hg => hXY _ (hX0 g hg))
            clear hb13 hF13 hHeld S11
            skip
            refine hK.out _ _ ⟨Lib.cell_of_heap hH13.h3 0, Lib.cell_of_heap hH13.h2 0, (cells2 (S13e.out.at 0 rfl)).1, (cells2 (S13e.out.at 0 rfl)).2, hH13.h0, trivial⟩ (fun hHeld => ?_)
            clear hK K hH13 S13e
            (try simp only [List.getElem_toArray]); (try simp only [List.getElem_cons_succ]); (try simp only [List.getElem_cons_zero]); (try simp only [Act.put]); (try simp only [List.setIfInBounds_toArray]); (try simp only [List.set_cons_succ]); (try simp only [List.set_cons_zero])
            refine wpAnyH_done (by kernel_rfl) ?_ _
            go_wp2_with fail
            refine range_it (Y := Xo Y [W12.heap.size, W12.heap.size + 1, W12.heap.size + 2, W12.heap.size + 3]) rfl (enters_of Tryd.func36 (by kernel_rfl) rfl) (fun _ => rfl) (ih (by omega) en.2 (joinL p en.1) W12.heap.size (W12.heap.size + 1) (W12.heap.size + 2) (W12.heap.size + 3) (fun g => g < w0.heap.size ∨ g ∈ [W12.heap.size, W12.heap.size + 1, W12.heap.size + 2, W12.heap.size + 3]) W13 (by have := join_len p en.1; omega) (fun g hg => .inl hg) hB13 ⟨.inr (by simp), .inr (by simp), .inr (by simp), .inr (by simp)⟩ hF) (KeepX.refl _ _) (fun g hg => hg.elim (fun hg => .inl (hXY _ (hX0 g hg))) .inr) (S13.out.less (List.sublist_append_left [(W12.heap.size, Obj.cells #[.slice ao ms.length cap, .int .i64 most, .int .i64 room] 24), (W12.heap.size + 1, Obj.cells #[.int .i64 en.2] 3), (W12.heap.size + 2, Obj.cells #[.string (bs (joinL p en.1))] 9), (W12.heap.size + 3, Obj.cells #[.int .i64 ((lv : Int) + 1)] 3)] _)).oldX
              (fun q => HeldT (J (x0 :: (nn.names.take k).flatMap (fun e : EntL => plcF (pl ms) u f e.2 (joinL p e.1)) ++ q)) (marksB mk ++ (W2.heap.size, Obj.cells #[.int .i64 nn.kind, .int .i64 nn.mode, .int .i64 nn.owner, .int .i64 nn.links, .int .i64 nn.opn, .int .i64 nn.up, .string (bs nn.data), .slice (some ⟨bN, oN, none⟩) nn.names.length capn] 44) :: (R ++ [(W.heap.size, Obj.cells #[.func (.yield l) #[] #[]] 92)]))) (fun q => HeldT.firm (hJ _) _) (by rw [List.append_nil]; exact S13.out.held) (fun x a' Z V => ∃ bp, V.heap[bp]? = some (.cells #[.int .i64 x.ino, .int .i64 x.level, .string (bs x.line.path), .int .i64 x.line.kind, .int .i64 x.line.mode, .string (bs x.line.data)] 54 (0, 0)) ∧ ¬ Z bp ∧ a' = { tmps := #[.func (.yield l) #[] #[], .pointer (some ⟨b0, 0, none⟩), .pointer (some ⟨b1, 0, none⟩), .pointer (some ⟨b3, 0, none⟩), .pointer (some ⟨b2, 0, none⟩), .pointer (some ⟨W.heap.size, 0, none⟩), .pointer (some ⟨W2.heap.size, 0, none⟩), .bool true, undef, .pointer (some ⟨wr.heap.size, 0, none⟩), .pointer (some ⟨bp, 0, none⟩), .tuple #[nval nn (.slice (some ⟨bN, oN, none⟩) nn.names.length capn), .bool true], .agg #[.slice ao ms.length cap, .int .i64 most, .int .i64 room], .int .i64 i, .tuple #[nval nn (.slice (some ⟨bN, oN, none⟩) nn.names.length capn), .bool true], nval nn (.slice (some ⟨bN, oN, none⟩) nn.names.length capn), .bool true, .bool true, .bool false, .bool false, .int .i64 lv, .agg #[.slice ao ms.length cap, .int .i64 most, .int .i64 room], .int .i64 u, .bool false, .bool false, .func (.yield l) #[] #[], .int .i64 i, .int .i64 lv, .string (bs p), .pointer (some ⟨W2.heap.size, 0, none⟩), .int .i64 nn.kind, .pointer (some ⟨W2.heap.size, 1, none⟩), .int .i64 nn.mode, .pointer (some ⟨W2.heap.size, 6, none⟩), .string (bs nn.data), .agg #[.string (bs p), .int .i64 nn.kind, .int .i64 nn.mode, .string (bs nn.data)], .agg #[.int .i64 i, .int .i64 lv, .string (bs p), .int .i64 nn.kind, .int .i64 nn.mode, .string (bs nn.data)], .bool true, .bool false, .bool false, .pointer (some ⟨W2.heap.size, 0, none⟩), .int .i64 nn.kind, .bool false, .bool false, .pointer (some ⟨W2.heap.size, 7, none⟩), .slice (some ⟨bN, oN, none⟩) nn.names.length capn, .int .i64 nn.names.length, .int .i64 k, .bool true, .pointer (some ⟨bN, oN + k * 2, none⟩), .agg #[.string (bs en.1), .int .i64 en.2], .agg #[.slice ao ms.length cap, .int .i64 most, .int .i64 room], .pointer (some ⟨wr.heap.size, 1, none⟩), .int .i64 en.2, .string (bs p), .pointer (some ⟨wr.heap.size, 0, none⟩), .string (bs en.1), .string (bs (joinL p en.1)), .int .i64 lv, .int .i64 ((lv : Int) + 1), .func (.func 36) #[] #[.pointer (some ⟨W12.heap.size, 0, none⟩), .pointer (some ⟨W12.heap.size + 1, 0, none⟩), .pointer (some ⟨W12.heap.size + 3, 0, none⟩), .pointer (some ⟨W12.heap.size + 2, 0, none⟩)], plcV x, undef, undef, undef, undef, u66], defers := [] }) (fun x a' => boxT_firm (.cells #[.int .i64 x.ino, .int .i64 x.level, .string (bs x.line.path), .int .i64 x.line.kind, .int .i64 x.line.mode, .string (bs x.line.data)] 54 (0, 0)) (fun bp => a' = { tmps := #[.func (.yield l) #[] #[], .pointer (some ⟨b0, 0, none⟩), .pointer (some ⟨b1, 0, none⟩), .pointer (some ⟨b3, 0, none⟩), .pointer (some ⟨b2, 0, none⟩), .pointer (some ⟨W.heap.size, 0, none⟩), .pointer (some ⟨W2.heap.size, 0, none⟩), .bool true, undef, .pointer (some ⟨wr.heap.size, 0, none⟩), .pointer (some ⟨bp, 0, none⟩), .tuple #[nval nn (.slice (some ⟨bN, oN, none⟩) nn.names.length capn), .bool true], .agg #[.slice ao ms.length cap, .int .i64 most, .int .i64 room], .int .i64 i, .tuple #[nval nn (.slice (some ⟨bN, oN, none⟩) nn.names.length capn), .bool true], nval nn (.slice (some ⟨bN, oN, none⟩) nn.names.length capn), .bool true, .bool true, .bool false, .bool false, .int .i64 lv, .agg #[.slice ao ms.length cap, .int .i64 most, .int .i64 room], .int .i64 u, .bool false, .bool false, .func (.yield l) #[] #[], .int .i64 i, .int .i64 lv, .string (bs p), .pointer (some ⟨W2.heap.size, 0, none⟩), .int .i64 nn.kind, .pointer (some ⟨W2.heap.size, 1, none⟩), .int .i64 nn.mode, .pointer (some ⟨W2.heap.size, 6, none⟩), .string (bs nn.data), .agg #[.string (bs p), .int .i64 nn.kind, .int .i64 nn.mode, .string (bs nn.data)], .agg #[.int .i64 i, .int .i64 lv, .string (bs p), .int .i64 nn.kind, .int .i64 nn.mode, .string (bs nn.data)], .bool true, .bool false, .bool false, .pointer (some ⟨W2.heap.size, 0, none⟩), .int .i64 nn.kind, .bool false, .bool false, .pointer (some ⟨W2.heap.size, 7, none⟩), .slice (some ⟨bN, oN, none⟩) nn.names.length capn, .int .i64 nn.names.length, .int .i64 k, .bool true, .pointer (some ⟨bN, oN + k * 2, none⟩), .agg #[.string (bs en.1), .int .i64 en.2], .agg #[.slice ao ms.length cap, .int .i64 most, .int .i64 room], .pointer (some ⟨wr.heap.size, 1, none⟩), .int .i64 en.2, .string (bs p), .pointer (some ⟨wr.heap.size, 0, none⟩), .string (bs en.1), .string (bs (joinL p en.1)), .int .i64 lv, .int .i64 ((lv : Int) + 1), .func (.func 36) #[] #[.pointer (some ⟨W12.heap.size, 0, none⟩), .pointer (some ⟨W12.heap.size + 1, 0, none⟩), .pointer (some ⟨W12.heap.size + 3, 0, none⟩), .pointer (some ⟨W12.heap.size + 2, 0, none⟩)], plcV x, undef, undef, undef, undef, u66], defers := [] })) ?assign ?body ?done
            case assign =>
              intro l2 m2 q x Z V K hYZ hZo hi hK
              dsimp only [encL]
              gi_wp2
              refine fresh1 (P := fun V' => K _ V') ?_
              intro V' hb hA hs
              exact hK _ _ (KeepX.of hb hZo) ((HeldT.firm (hJ _) _).keep hi hb) ⟨V.heap.size, hA, fun h => Nat.lt_irrefl _ (hZo _ h), rfl⟩
            case body =>
              rintro l2 m2 q x Z a' V hYZ hZo hi ⟨bp, hbp, nbp, rfl⟩ hlen
              dsimp only
              have hyb := (hi.2 (W.heap.size, Obj.cells #[.func (.yield l) #[] #[]] 92) (by simp)).1
              have cy := Lib.cell_of_heap hyb 0
              obtain ⟨p0, p1, p2, p3, p4, p5⟩ := cells6 hbp
              have hZ0 : Old (Xo Z ((marksB mk ++ (W2.heap.size, Obj.cells #[.int .i64 nn.kind, .int .i64 nn.mode, .int .i64 nn.owner, .int .i64 nn.links, .int .i64 nn.opn, .int .i64 nn.up, .string (bs nn.data), .slice (some ⟨bN, oN, none⟩) nn.names.length capn] 44) :: (R ++ [(W.heap.size, Obj.cells #[.func (.yield l) #[] #[]] 92)])).map (·.1))) V := fun g hg => hg.elim (hZo g) fun hg => by obtain ⟨y, hy, rfl⟩ := List.mem_map.1 hg; exact lt_some (hi.2 y hy).1
              have hy0 := hY (x0 :: (nn.names.take k).flatMap (fun e : EntL => plcF (pl ms) u f e.2 (joinL p e.1)) ++ q) x _ V (m2 - 1) (fun g hg => .inl (hYZ g (.inl hg))) hZ0 hi.1 (by rw [HL.out, HT.out]; exact flat_lt (fun e : EntL => plcF (pl ms) u f e.2 (joinL p e.1)) x0 nn.names k hlt q (by rw [HE.out] at hlen; exact hlen))
              rw [show encL x = #[plcV x] from rfl] at hy0
              obtain ⟨fn2, tm2, asg2, bd2, hy2, hRd2⟩ := hy0
              clear hbp hyb hZ0
              gi_wp2
              refine (roundIn_in hRd2).mono ?_
              rintro e V2 ⟨rfl, hj, hkp⟩
              gi_wp2
              rw [List.append_assoc] at hj
              exact ⟨⟨hj, fun y hy => ⟨(hkp.blk _ (.inr (List.mem_map.2 ⟨y, hy, rfl⟩))).trans (hi.2 y hy).1, (hi.2 y hy).2⟩⟩, hkp.sub fun g hg => .inl hg⟩
            case done =>
              intro D Z V hYZ hZD hDs hZo hi hkY hD
              have S14 := S13.out.back hYZ hZD hDs (hJ _) hi hkY hD
              rw [HE.out, ← flat_step (fun e : EntL => plcF (pl ms) u f e.2 (joinL p e.1)) x0 nn.names k hlt] at S14
              replace S14 := Lib.hid S14
              clear hi hkY hD S13
              go_wp2_with fail
              refine ⟨⟨k + 1, D :: mk, _, _, _, _, _, _, _, _, _, _, _, _, _, _, _, rfl, hlt, S14⟩, ?_⟩
              simp [RowKit.intOf]
              omega
          · have iL : decide (k < nn.names.length) = false := decide_eq_false hlt
            have iL2 : decide ((k : Int) < (nn.names.length : Int)) = false := decide_eq_false (by omega)
            have hlen : k = nn.names.length := by omega
            subst hlen
            clear hlt
            go_wp2_with fail
            rw [HL.out, HT.out]
            have S9 := S8.out
            rw [List.take_length] at S9
            exact it_end mk _ S9 fun _ => results_none rfl _ _ _
      · have e1 : (nn.kind != 2) = true := by simpa using h2
        have e2 : decide (nn.kind = 2) = false := decide_eq_false h2
        rw [if_neg h2] at HT
        clear h2
        gi_wp2
        go_wp2_with fail
        rw [HL.out, HT.out]
        exact it_end [] _ S7.out fun _ => results_none rfl _ _ _
theorem from1 {ao : Option Addr} {cap : Nat} {ms : List NodeM} {most room : Int} {w0 : World} (hv : RdM w0.heap.size (.slice ao ms.length cap) ms w0) (hl : ms.length ≤ 1000) (hnl : ∀ n ∈ pl ms, n.names.length ≤ 10000) (hnm : ∀ n ∈ pl ms, ∀ e ∈ n.names, e.1.length ≤ 12) : ∀ f, FromP ao cap ms most room w0 f := by
  intro f
  induction f with
  | zero => exact from_step hv hl hnl hnm 0 fun f' e => by omega
  | succ f ih => exact from_step hv hl hnl hnm (f + 1) fun f' e => (by obtain rfl : f = f' := (by omega); exact ih)
end Go.Proofs.YtilhiafmljmljaaDoor
