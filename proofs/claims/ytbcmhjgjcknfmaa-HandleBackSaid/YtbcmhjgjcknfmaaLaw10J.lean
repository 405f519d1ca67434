/-
  What is opened or doubled, and closed again: HandleBack.
-/
import Derived.Test.YtbcmhjgjcknfmaaLaw10H
import Derived.Test.YtbcmhjgjcknfmaaLaw10I
import Derived.Test.YtbcmhjgjcknfmaaLaw10G
namespace Go.Proofs.Ytbcmhjgjcknfmaa
open Go.RowKit Go.Shelf
attribute [local go_sem ↓] Go.wp_at_zero Go.wp_at_succ

theorem found_small {t : TabL} (hr : RightT t) (hz : SizeT t) (p fd : Int) : -400 ≤ (foundT t p fd).refs ∧ (foundT t p fd).refs ≤ 400 := by
  have hzero : -400 ≤ zeroD.refs ∧ zeroD.refs ≤ 400 := by decide
  unfold foundT
  split
  · unfold descT
    rcases Nat.lt_or_ge (atR (rowT t p) fd).toNat t.ds.length with h | h
    · rw [← List.getElem_eq_getD (h := h)]
      have := refs_small hr hz h
      omega
    · rw [List.getD_eq_getElem?_getD, List.getElem?_eq_none h]
      exact hzero
  · exact hzero
theorem size_pad {m : Nat} {t : TabL} (h : SizeM m t) (n : Nat) : SizeM (m + 1) (padT t n) := by
  refine ⟨?_, h.2⟩
  have := h.1
  unfold padT
  split <;> simp <;> omega
theorem back_open' {t ta : TabL} {p i e : Int} {x : DescL} (hr : RightT t) (ha : ta = (openT t p x).1) (hi : i = (openT t p x).2.1) (he : e = (openT t p x).2.2) (h : e = 0) :
    hasT ta p i = true ∧ placeT ta p i = (freeD t.ds : Nat) ∧ foundT ta p i = { x with refs := 1 } ∧ closeT ta p i = (padT t (freeD t.ds), { x with refs := 0 }, 0) ∧ countT ta p = countT t p + 1 ∧ countT t p ≤ 8 := by
  have h0 : (openT t p x).2.2 = 0 := he.symm.trans h
  obtain ⟨b1, b2, b3, b4, b5⟩ := back_open hr h0
  obtain ⟨a, e1, e2, -⟩ := open_ok h0
  subst ha hi
  refine ⟨b1, b2, b3, b4, b5, ?_⟩
  rw [e1]
  exact count_eight hr e2
theorem back_dup' {t tc : TabL} {p fd j e : Int} (hr : RightT t) (hc : tc = (dupT t p fd).1) (hj : j = (dupT t p fd).2.1) (he : e = (dupT t p fd).2.2) (h : e = 0) :
    hasT t p fd = true ∧ hasT tc p j = true ∧ placeT tc p j = placeT t p fd ∧ (foundT tc p j).refs = (foundT t p fd).refs + 1 ∧ (closeT tc p j).1 = t ∧ (closeT tc p j).2.2 = 0 := by
  have h0 : (dupT t p fd).2.2 = 0 := he.symm.trans h
  subst hc hj
  exact back_dup hr h0
set_option maxRecDepth 100000 in
set_option maxHeartbeats 12000000 in
theorem back_l (pc : PH) (t : TabL) (p fd : Int) (x : DescL) (ad af : Option Addr) (cap capf : Nat) (w : World) (hT : TabX t (.slice ad t.ds.length cap) (.slice af t.fs.length capf) (fun _ => False) w) :
    Calls Try.prog 6 #[tabV ad t.ds.length cap af t.fs.length capf, .int .i64 p, .int .i64 fd, dvalD x] w fun e w' => e = .returned (.bool true) ∧ Below w.heap.size w w' := by
  have S0 := Lib.hid (Sf.start (G := [TabX t (.slice ad t.ds.length cap) (.slice af t.fs.length capf)]) (fun _ h => h.elim) (th1 (TabX.firm _ _ _) hT))
  clear hT
  have hgd := eqDescHG
  go_enter Try.func6, Try.ntmps6
  go_upto_region 1 with (fail)
  refine code_fresh2 ?_
  intro W1 hb hA0 hA1 hs
  have S1 := Lib.hid (S0.out.new2 hb hA0 hA1)
  clear hb hA0 hA1 hs
  have h_d := (S1.out.at 0 rfl)
  go_wp2_with (first | (refine wpList_load_row rfl 25 _ rfl _ rfl 25 _ (0, 0) _ h_d Try.underlying25 rfl (by kernel_rfl) ?_) | (refine wpList_load_rowG rfl 25 _ rfl _ rfl 25 _ (0, 0) _ h_d Try.underlying25 rfl (by kernel_rfl) ?_))
  refine (fine_c _ t _ _ _ _ _ S1.out.oldX (S1.out.g 0 rfl)).mono ?_
  rintro e W2 ⟨rfl, hb⟩
  clear h_d
  have S2 := Lib.hid (S1.out.call hb)
  clear hb
  cases hfb : fineB t with
  | false =>
    clear hfb
    go_wp2_with fail
    refine (pc.shown W2).mono ?_
    rintro e W3 ⟨rfl, hb⟩
    have S3 := Lib.hid (S2.out.call hb)
    clear hb
    go_wp2_with fail
    go_ret
    exact ⟨rfl, S3.out.bel⟩
  | true =>
    have HFB := Lib.hid (fine_B.1 hfb)
    have HSZ := Lib.hid (size_T HFB.out.1 (by decide))
    clear hfb
    go_wp2_with fail
    refine (pc.shown W2).mono ?_
    rintro e W3 ⟨rfl, hb⟩
    have S3 := Lib.hid (S2.out.call hb)
    clear hb
    go_upto_region 3 with (fail)
    have h_d := (S3.out.at 0 rfl)
    have h_x := (S3.out.at 1 rfl)
    go_wp2_with (first | (refine wpList_load_row rfl 25 _ rfl _ rfl 25 _ (0, 0) _ h_d Try.underlying25 rfl (by kernel_rfl) ?_) | (refine wpList_load_rowG rfl 25 _ rfl _ rfl 25 _ (0, 0) _ h_d Try.underlying25 rfl (by kernel_rfl) ?_) | (refine wpList_load_row rfl 27 _ rfl _ rfl 27 _ (0, 0) _ h_x Try.underlying27 rfl (by kernel_rfl) ?_) | (refine wpList_load_rowG rfl 27 _ rfl _ rfl 27 _ (0, 0) _ h_x Try.underlying27 rfl (by kernel_rfl) ?_))
    refine (pc.opn _ t p x _ _ _ _ W3 S3.out.oldX (S3.out.g 0 rfl) HSZ.out HFB.out.2).mono ?_
    rintro e W4 ⟨vd4, vf4, rfl, hT4, hb⟩
    obtain ⟨ad4, cap4, af4, capf4, rfl, rfl⟩ := hT4.form
    clear h_d h_x
    obtain ⟨ta, hta⟩ : ∃ ta, ta = (openT t p x).1 := ⟨_, rfl⟩
    rw [← hta] at hT4 ⊢
    obtain ⟨ta1, hta1⟩ : ∃ ta1, ta1 = (openT t p x).2.1 := ⟨_, rfl⟩
    obtain ⟨ta2, hta2⟩ : ∃ ta2, ta2 = (openT t p x).2.2 := ⟨_, rfl⟩
    rw [← hta1, ← hta2]
    have Hta1 := Lib.hid hta1
    have Hta2 := Lib.hid hta2
    clear hta1 hta2
    have Hta := Lib.hid hta
    have S4 := Lib.hid ((S3.out.call hb).more (TabX.firm _ _ _) hT4)
    clear hta hb hT4
    go_upto_region 4 with (fail)
    refine code_fresh1 ?_
    intro W5 hb hA0 hs
    have S5 := Lib.hid (S4.out.new1 hb hA0)
    clear hb hA0 hs
    have HZA := Lib.hid (show SizeT ta by rw [Hta.out]; exact size_T (size_open HFB.out.1 p x) (by decide))
    have HRA := Lib.hid (show RightT ta by rw [Hta.out]; exact right_open HFB.out.2 p x)
    by_cases he : ta2 = 0
    · have HBO := Lib.hid (back_open' HFB.out.2 Hta.out Hta1.out Hta2.out he)
      have e1 : (ta2 == 0) = true := by simpa using he
      have e2 : decide (ta2 = 0) = true := decide_eq_true he
      have e3 : (ta2 != 0) = false := by simpa using he
      clear he
      go_upto_region 5 with (fail)
      clear e1 e2 e3
      have h_a := (S5.out.at 2 rfl)
      go_wp2_with (first | (refine wpList_load_row rfl 25 _ rfl _ rfl 25 _ (0, 0) _ h_a Try.underlying25 rfl (by kernel_rfl) ?_) | (refine wpList_load_rowG rfl 25 _ rfl _ rfl 25 _ (0, 0) _ h_a Try.underlying25 rfl (by kernel_rfl) ?_))
      refine (pc.get _ ta p ta1 _ _ _ _ W5 S5.out.oldX (S5.out.g 1 rfl) HZA.out HRA.out).mono ?_
      rintro e W6 ⟨hgot, hb⟩
      clear h_a
      have S6 := Lib.hid (S5.out.call hb)
      unfold GotIs at hgot
      subst hgot
      rw [HBO.out.1, HBO.out.2.1]
      clear hb
      obtain ⟨xx, hxx⟩ : ∃ xx, xx = foundT ta p ta1 := ⟨_, rfl⟩
      have HXX := Lib.hid (hxx.trans HBO.out.2.2.1)
      rw [← hxx]
      clear hxx
      obtain ⟨fr, hfr⟩ : ∃ fr, fr = freeD t.ds := ⟨_, rfl⟩
      have HFR := Lib.hid hfr
      rw [← hfr]
      clear hfr
      go_upto_region 6 with (fail)
      refine code_fresh1 ?_
      intro W7 hb hA0 hs
      have S7 := Lib.hid (S6.out.new1 hb hA0)
      clear hb hA0 hs
      obtain ⟨-, -, -, -, x4, -⟩ := cells6 (S7.out.at 1 rfl)
      have fx := fun j => Lib.frozen_of_heap (S7.out.at 1 rfl) j
      go_upto_region 7 with (fail)
      refine code_set1 (S7.out.at 1 rfl) ?_
      intro W8 hb hg hs hn
      clear x4 fx
      have hn2 : W8.heap[w.heap.size + 1]? = some (.cells #[.int .i64 xx.ino, .int .i64 xx.pos, .bool xx.rd, .bool xx.wr, .int .i64 xx.refs, .int .i64 xx.lock] 27 (0, 0)) := by rw [HXX.out]; exact hn
      have S8 := Lib.hid (S7.out.set 1 rfl hb hg hs hn2)
      clear hb hg hs hn hn2
      have h_a := (S8.out.at 2 rfl)
      go_wp2_with (first | (refine wpList_load_row rfl 25 _ rfl _ rfl 25 _ (0, 0) _ h_a Try.underlying25 rfl (by kernel_rfl) ?_) | (refine wpList_load_rowG rfl 25 _ rfl _ rfl 25 _ (0, 0) _ h_a Try.underlying25 rfl (by kernel_rfl) ?_))
      refine (pc.close _ ta p ta1 _ _ _ _ W8 S8.out.oldX (S8.out.g 1 rfl) HZA.out HRA.out).mono ?_
      rintro e W9 ⟨vd9, vf9, rfl, hT9, hb⟩
      obtain ⟨ad9, cap9, af9, capf9, rfl, rfl⟩ := hT9.form
      clear h_a
      obtain ⟨tb, htb⟩ : ∃ tb, tb = (closeT ta p ta1).1 := ⟨_, rfl⟩
      rw [← htb] at hT9 ⊢
      obtain ⟨tb1, htb1⟩ : ∃ tb1, tb1 = (closeT ta p ta1).2.1 := ⟨_, rfl⟩
      obtain ⟨tb2, htb2⟩ : ∃ tb2, tb2 = (closeT ta p ta1).2.2 := ⟨_, rfl⟩
      rw [← htb1, ← htb2]
      have Htb1 := Lib.hid htb1
      have Htb2 := Lib.hid htb2
      clear htb1 htb2
      have Htb := Lib.hid htb
      have S9 := Lib.hid ((S8.out.call hb).more (TabX.firm _ _ _) hT9)
      clear htb hb hT9
      have HTB := Lib.hid (show tb = padT t fr by rw [Htb.out, HBO.out.2.2.2.1, ← HFR.out])
      have HZ1 := Lib.hid (show tb1.refs = 0 by rw [Htb1.out, HBO.out.2.2.2.1])
      have HZ2 := Lib.hid (show tb1.ino = xx.ino by rw [Htb1.out, HBO.out.2.2.2.1, HXX.out])
      have etb2 : tb2 = 0 := Htb2.out.trans (by rw [HBO.out.2.2.2.1])
      subst etb2
      have HZB := Lib.hid (show SizeT tb by rw [HTB.out]; exact size_T (size_pad HFB.out.1 fr) (by decide))
      go_upto_region 8 with (fail)
      refine code_fresh2 ?_
      intro W10 hb hA0 hA1 hs
      have S10 := Lib.hid (S9.out.new2 hb hA0 hA1)
      clear hb hA0 hA1 hs
      have heq : ∀ w, (Op.equalIn 10000 27 (.agg #[.int .i64 xx.ino, .int .i64 xx.pos, .bool xx.rd, .bool xx.wr, .int .i64 xx.refs, .int .i64 xx.lock]) (.agg #[.int .i64 xx.ino, .int .i64 xx.pos, .bool xx.rd, .bool xx.wr, .int .i64 xx.refs, .int .i64 xx.lock])).run Try.prog w = .ok (decide (xx = xx)) w := fun w => eqDescH xx xx w
      have hyy : decide (xx = xx) = true := decide_eq_true rfl
      obtain ⟨cn, hcn⟩ : ∃ cn, cn = countT t p := ⟨_, rfl⟩
      have HCN := Lib.hid (show countT ta p = cn + 1 by rw [hcn]; exact HBO.out.2.2.2.2.1)
      have hc8 : cn ≤ 8 := by rw [hcn]; exact HBO.out.2.2.2.2.2
      have wcn : IntKind.i64.wrap ((cn : Int) + 1) = (cn : Int) + 1 := Go.IntWalk.i64_in _ (by omega)
      have HCN2 := Lib.hid hcn
      clear hcn hc8
      have hin : (xx.ino == xx.ino) = true := beq_self_eq_true _
      have hin2 : decide (xx.ino = xx.ino) = true := decide_eq_true rfl
      have hcc : ((cn : Int) + 1 == (cn : Int) + 1) = true := beq_self_eq_true _
      have hcc2 : decide ((cn : Int) + 1 = (cn : Int) + 1) = true := decide_eq_true rfl
      have h_d := (S10.out.at 0 rfl)
      have h_x := (S10.out.at 1 rfl)
      have h_a := (S10.out.at 2 rfl)
      have h_y := (S10.out.at 3 rfl)
      have h_b := (S10.out.at 4 rfl)
      refine wp_region_held_drew (S := fun W => W.heap[w.heap.size]? = some (.cells #[.slice ad t.ds.length cap, .slice af t.fs.length capf] 25 (0, 0)) ∧ W.heap[w.heap.size + 1]? = some (.cells #[.int .i64 xx.ino, .int .i64 xx.pos, .bool xx.rd, .bool xx.wr, .int .i64 xx.refs, .int .i64 xx.lock] 27 (0, 0)) ∧ W.heap[W4.heap.size]? = some (.cells #[.slice ad4 ta.ds.length cap4, .slice af4 ta.fs.length capf4] 25 (0, 0)) ∧ W.heap[W6.heap.size]? = some (.cells #[.int .i64 xx.ino, .int .i64 xx.pos, .bool xx.rd, .bool xx.wr, .int .i64 xx.refs, .int .i64 xx.lock] 27 (0, 0)) ∧ W.heap[W9.heap.size]? = some (.cells #[.slice ad9 tb.ds.length cap9, .slice af9 tb.fs.length capf9] 25 (0, 0)) ∧ W.cell? ⟨W9.heap.size + 1, 4, none⟩ = some (.int .i64 0) ∧ W.cell? ⟨W9.heap.size + 1, 0, none⟩ = some (.int .i64 xx.ino) ∧ W.cell? ⟨w.heap.size + 1, 0, none⟩ = some (.int .i64 xx.ino) ∧ True) (by kernel_rfl) ⟨(S10.out.at 0 rfl), (S10.out.at 1 rfl), (S10.out.at 2 rfl), (S10.out.at 3 rfl), (S10.out.at 4 rfl), (by have h := (cells6 (S10.out.at 5 rfl)).2.2.2.2.1; rw [HZ1.out] at h; exact h), (by have h := (cells6 (S10.out.at 5 rfl)).1; rw [HZ2.out] at h; exact h), (cells6 (S10.out.at 1 rfl)).1, trivial⟩ (fun hHeld => ?_)
      clear h_d h_x h_a h_y h_b
      have S11 := Lib.hid (S10.out.call (Below.refl W10.heap.size W10).drew)
      generalize W10.drew = W11 at *
      refine wpAnyH_take (i := 0) (v := ?v1) rfl (by kernel_rfl) (by kernel_rfl) (by kernel_rfl) (fun _ _ _ h => h) (Or.inl ⟨by rfl, ?hy1⟩) hHeld ?rest1
      case hy1 => (intro w hSw; (try dsimp only at hSw); (try go_split_ands); go_simp; first | done | with_reducible rfl)
      (try simp only [List.getElem_toArray]); (try simp only [List.getElem_cons_succ]); (try simp only [List.getElem_cons_zero]); (try simp only [Act.put]); (try simp only [List.setIfInBounds_toArray]); (try simp only [List.set_cons_succ]); (try simp only [List.set_cons_zero])
      refine wpAnyH_take (i := 1) (v := ?v2) rfl (by kernel_rfl) (by kernel_rfl) (by kernel_rfl) (fun _ _ _ h => h) (Or.inl ⟨by rfl, ?hy2⟩) hHeld ?rest2
      case hy2 => (intro w hSw; (try dsimp only at hSw); (try go_split_ands); go_simp; first | done | with_reducible rfl)
      (try simp only [List.getElem_toArray]); (try simp only [List.getElem_cons_succ]); (try simp only [List.getElem_cons_zero]); (try simp only [Act.put]); (try simp only [List.setIfInBounds_toArray]); (try simp only [List.set_cons_succ]); (try simp only [List.set_cons_zero])
      refine wpAnyH_take (i := 2) (v := ?v3) rfl (by kernel_rfl) (by kernel_rfl) (by kernel_rfl) (fun _ _ _ h => h) (Or.inl ⟨by rfl, ?hy3⟩) hHeld ?rest3
      case hy3 => (intro w hSw; (try dsimp only at hSw); (try go_split_ands); go_simp; first | done | with_reducible rfl)
      (try simp only [List.getElem_toArray]); (try simp only [List.getElem_cons_succ]); (try simp only [List.getElem_cons_zero]); (try simp only [Act.put]); (try simp only [List.setIfInBounds_toArray]); (try simp only [List.set_cons_succ]); (try simp only [List.set_cons_zero])
      refine wpAnyH_take (i := 3) rfl (by kernel_rfl) (by kernel_rfl) (by kernel_rfl) (fun _ _ _ h => h) (yieldsIf_load_row (by rfl) 27 _ rfl _ rfl 27 _ (0, 0) _ (fun _ h => h.2.2.2.1) Try.underlying27 rfl (by kernel_rfl)) hHeld ?_
      (try simp only [List.getElem_toArray]); (try simp only [List.getElem_cons_succ]); (try simp only [List.getElem_cons_zero]); (try simp only [Act.put]); (try simp only [List.setIfInBounds_toArray]); (try simp only [List.set_cons_succ]); (try simp only [List.set_cons_zero])
      refine wpAnyH_take (i := 4) rfl (by kernel_rfl) (by kernel_rfl) (by kernel_rfl) (fun _ _ _ h => h) (yieldsIf_load_row (by rfl) 27 _ rfl _ rfl 27 _ (0, 0) _ (fun _ h => h.2.1) Try.underlying27 rfl (by kernel_rfl)) hHeld ?_
      (try simp only [List.getElem_toArray]); (try simp only [List.getElem_cons_succ]); (try simp only [List.getElem_cons_zero]); (try simp only [Act.put]); (try simp only [List.setIfInBounds_toArray]); (try simp only [List.set_cons_succ]); (try simp only [List.set_cons_zero])
      refine wpAnyH_take (i := 5) (v := ?v4) rfl (by kernel_rfl) (by kernel_rfl) (by kernel_rfl) (fun _ _ _ h => h) (Or.inl ⟨by rfl, ?hy4⟩) hHeld ?rest4
      case hy4 => (intro w hSw; (try dsimp only at hSw); (try go_split_ands); go_simp; first | done | with_reducible rfl)
      (try simp only [List.getElem_toArray]); (try simp only [List.getElem_cons_succ]); (try simp only [List.getElem_cons_zero]); (try simp only [Act.put]); (try simp only [List.setIfInBounds_toArray]); (try simp only [List.set_cons_succ]); (try simp only [List.set_cons_zero])
      refine wpAnyH_take (i := 6) (v := ?v5) rfl (by kernel_rfl) (by kernel_rfl) (by kernel_rfl) (fun _ _ _ h => h) (Or.inl ⟨by rfl, ?hy5⟩) hHeld ?rest5
      case hy5 => (intro w hSw; (try dsimp only at hSw); (try go_split_ands); go_simp; first | done | with_reducible rfl)
      (try simp only [List.getElem_toArray]); (try simp only [List.getElem_cons_succ]); (try simp only [List.getElem_cons_zero]); (try simp only [Act.put]); (try simp only [List.setIfInBounds_toArray]); (try simp only [List.set_cons_succ]); (try simp only [List.set_cons_zero])
      refine wpAnyH_take (i := 7) (v := ?v6) rfl (by kernel_rfl) (by kernel_rfl) (by kernel_rfl) (fun _ _ _ h => h) (Or.inl ⟨by rfl, ?hy6⟩) hHeld ?rest6
      case hy6 => (intro w hSw; (try dsimp only at hSw); (try go_split_ands); go_simp; first | done | with_reducible rfl)
      (try simp only [List.getElem_toArray]); (try simp only [List.getElem_cons_succ]); (try simp only [List.getElem_cons_zero]); (try simp only [Act.put]); (try simp only [List.setIfInBounds_toArray]); (try simp only [List.set_cons_succ]); (try simp only [List.set_cons_zero])
      refine wpAnyH_take (i := 8) (v := ?v7) rfl (by kernel_rfl) (by kernel_rfl) (by kernel_rfl) (fun _ _ _ h => h) (Or.inl ⟨by rfl, ?hy7⟩) hHeld ?rest7
      case hy7 => (intro w hSw; (try dsimp only at hSw); (try go_split_ands); go_simp; first | done | with_reducible rfl)
      (try simp only [List.getElem_toArray]); (try simp only [List.getElem_cons_succ]); (try simp only [List.getElem_cons_zero]); (try simp only [Act.put]); (try simp only [List.setIfInBounds_toArray]); (try simp only [List.set_cons_succ]); (try simp only [List.set_cons_zero])
      refine wpAnyH_take (i := 9) (v := ?v8) rfl (by kernel_rfl) (by kernel_rfl) (by kernel_rfl) (fun _ _ _ h => h) (Or.inl ⟨by rfl, ?hy8⟩) hHeld ?rest8
      case hy8 => (intro w hSw; (try dsimp only at hSw); (try go_split_ands); go_simp; first | done | with_reducible rfl)
      (try simp only [List.getElem_toArray]); (try simp only [List.getElem_cons_succ]); (try simp only [List.getElem_cons_zero]); (try simp only [Act.put]); (try simp only [List.setIfInBounds_toArray]); (try simp only [List.set_cons_succ]); (try simp only [List.set_cons_zero])
      refine wpAnyH_take (i := 10) (v := ?v9) rfl (by kernel_rfl) (by kernel_rfl) (by kernel_rfl) (fun _ _ _ h => h) (Or.inl ⟨by rfl, ?hy9⟩) hHeld ?rest9
      case hy9 => (intro w hSw; (try dsimp only at hSw); (try go_split_ands); go_simp; first | done | with_reducible rfl)
      (try simp only [List.getElem_toArray]); (try simp only [List.getElem_cons_succ]); (try simp only [List.getElem_cons_zero]); (try simp only [Act.put]); (try simp only [List.setIfInBounds_toArray]); (try simp only [List.set_cons_succ]); (try simp only [List.set_cons_zero])
      refine wpAnyH_take (i := 11) (v := ?v10) rfl (by kernel_rfl) (by kernel_rfl) (by kernel_rfl) (fun _ _ _ h => h) (Or.inl ⟨by rfl, ?hy10⟩) hHeld ?rest10
      case hy10 => (intro w hSw; (try dsimp only at hSw); (try go_split_ands); go_simp; first | done | with_reducible rfl)
      (try simp only [List.getElem_toArray]); (try simp only [List.getElem_cons_succ]); (try simp only [List.getElem_cons_zero]); (try simp only [Act.put]); (try simp only [List.setIfInBounds_toArray]); (try simp only [List.set_cons_succ]); (try simp only [List.set_cons_zero])
      refine wpAnyH_take (i := 12) (v := ?v11) rfl (by kernel_rfl) (by kernel_rfl) (by kernel_rfl) (fun _ _ _ h => h) (Or.inl ⟨by rfl, ?hy11⟩) hHeld ?rest11
      case hy11 => (intro w hSw; (try dsimp only at hSw); (try go_split_ands); go_simp; first | done | with_reducible rfl)
      (try simp only [List.getElem_toArray]); (try simp only [List.getElem_cons_succ]); (try simp only [List.getElem_cons_zero]); (try simp only [Act.put]); (try simp only [List.setIfInBounds_toArray]); (try simp only [List.set_cons_succ]); (try simp only [List.set_cons_zero])
      refine wpAnyH_take (i := 13) (v := ?v12) rfl (by kernel_rfl) (by kernel_rfl) (by kernel_rfl) (fun _ _ _ h => h) (Or.inl ⟨by rfl, ?hy12⟩) hHeld ?rest12
      case hy12 => (intro w hSw; (try dsimp only at hSw); (try go_split_ands); go_simp; first | done | with_reducible rfl)
      (try simp only [List.getElem_toArray]); (try simp only [List.getElem_cons_succ]); (try simp only [List.getElem_cons_zero]); (try simp only [Act.put]); (try simp only [List.setIfInBounds_toArray]); (try simp only [List.set_cons_succ]); (try simp only [List.set_cons_zero])
      refine wpAnyH_take (i := 14) (v := ?v13) rfl (by kernel_rfl) (by kernel_rfl) (by kernel_rfl) (fun _ _ _ h => h) (Or.inl ⟨by rfl, ?hy13⟩) hHeld ?rest13
      case hy13 => (intro w hSw; (try dsimp only at hSw); (try go_split_ands); go_simp; first | done | with_reducible rfl)
      (try simp only [List.getElem_toArray]); (try simp only [List.getElem_cons_succ]); (try simp only [List.getElem_cons_zero]); (try simp only [Act.put]); (try simp only [List.setIfInBounds_toArray]); (try simp only [List.set_cons_succ]); (try simp only [List.set_cons_zero])
      refine wpAnyH_take (i := 15) (v := ?v14) rfl (by kernel_rfl) (by kernel_rfl) (by kernel_rfl) (fun _ _ _ h => h) (Or.inl ⟨by rfl, ?hy14⟩) hHeld ?rest14
      case hy14 => (intro w hSw; (try dsimp only at hSw); (try go_split_ands); go_simp; first | done | with_reducible rfl)
      (try simp only [List.getElem_toArray]); (try simp only [List.getElem_cons_succ]); (try simp only [List.getElem_cons_zero]); (try simp only [Act.put]); (try simp only [List.setIfInBounds_toArray]); (try simp only [List.set_cons_succ]); (try simp only [List.set_cons_zero])
      refine wpAnyH_take (i := 16) (v := ?v15) rfl (by kernel_rfl) (by kernel_rfl) (by kernel_rfl) (fun _ _ _ h => h) (Or.inl ⟨by rfl, ?hy15⟩) hHeld ?rest15
      case hy15 => (intro w hSw; (try dsimp only at hSw); (try go_split_ands); go_simp; first | done | with_reducible rfl)
      (try simp only [List.getElem_toArray]); (try simp only [List.getElem_cons_succ]); (try simp only [List.getElem_cons_zero]); (try simp only [Act.put]); (try simp only [List.setIfInBounds_toArray]); (try simp only [List.set_cons_succ]); (try simp only [List.set_cons_zero])
      refine wpAnyH_take (i := 17) (v := ?v16) rfl (by kernel_rfl) (by kernel_rfl) (by kernel_rfl) (fun _ _ _ h => h) (Or.inl ⟨by rfl, ?hy16⟩) hHeld ?rest16
      case hy16 => (intro w hSw; (try dsimp only at hSw); (try go_split_ands); go_simp; first | done | with_reducible rfl)
      (try simp only [List.getElem_toArray]); (try simp only [List.getElem_cons_succ]); (try simp only [List.getElem_cons_zero]); (try simp only [Act.put]); (try simp only [List.setIfInBounds_toArray]); (try simp only [List.set_cons_succ]); (try simp only [List.set_cons_zero])
      refine wpAnyH_take (i := 18) (v := ?v17) rfl (by kernel_rfl) (by kernel_rfl) (by kernel_rfl) (fun _ _ _ h => h) (Or.inl ⟨by rfl, ?hy17⟩) hHeld ?rest17
      case hy17 => (intro w hSw; (try dsimp only at hSw); (try go_split_ands); go_simp; first | done | with_reducible rfl)
      (try simp only [List.getElem_toArray]); (try simp only [List.getElem_cons_succ]); (try simp only [List.getElem_cons_zero]); (try simp only [Act.put]); (try simp only [List.setIfInBounds_toArray]); (try simp only [List.set_cons_succ]); (try simp only [List.set_cons_zero])
      refine wpAnyH_take (i := 19) (v := ?v18) rfl (by kernel_rfl) (by kernel_rfl) (by kernel_rfl) (fun _ _ _ h => h) (Or.inl ⟨by rfl, ?hy18⟩) hHeld ?rest18
      case hy18 => (intro w hSw; (try dsimp only at hSw); (try go_split_ands); go_simp; first | done | with_reducible rfl)
      (try simp only [List.getElem_toArray]); (try simp only [List.getElem_cons_succ]); (try simp only [List.getElem_cons_zero]); (try simp only [Act.put]); (try simp only [List.setIfInBounds_toArray]); (try simp only [List.set_cons_succ]); (try simp only [List.set_cons_zero])
      refine wpAnyH_take (i := 20) (v := ?v19) rfl (by kernel_rfl) (by kernel_rfl) (by kernel_rfl) (fun _ _ _ h => h) (Or.inl ⟨by rfl, ?hy19⟩) hHeld ?rest19
      case hy19 => (intro w hSw; (try dsimp only at hSw); (try go_split_ands); go_simp; first | done | with_reducible rfl)
      (try simp only [List.getElem_toArray]); (try simp only [List.getElem_cons_succ]); (try simp only [List.getElem_cons_zero]); (try simp only [Act.put]); (try simp only [List.setIfInBounds_toArray]); (try simp only [List.set_cons_succ]); (try simp only [List.set_cons_zero])
      refine wpAnyH_take (i := 21) (v := ?v20) rfl (by kernel_rfl) (by kernel_rfl) (by kernel_rfl) (fun _ _ _ h => h) (Or.inl ⟨by rfl, ?hy20⟩) hHeld ?rest20
      case hy20 => (intro w hSw; (try dsimp only at hSw); (try go_split_ands); go_simp; first | done | with_reducible rfl)
      (try simp only [List.getElem_toArray]); (try simp only [List.getElem_cons_succ]); (try simp only [List.getElem_cons_zero]); (try simp only [Act.put]); (try simp only [List.setIfInBounds_toArray]); (try simp only [List.set_cons_succ]); (try simp only [List.set_cons_zero])
      refine wpAnyH_take (i := 22) (v := ?v21) rfl (by kernel_rfl) (by kernel_rfl) (by kernel_rfl) (fun _ _ _ h => h) (Or.inl ⟨by rfl, ?hy21⟩) hHeld ?rest21
      case hy21 => (intro w hSw; (try dsimp only at hSw); (try go_split_ands); go_simp; first | done | with_reducible rfl)
      (try simp only [List.getElem_toArray]); (try simp only [List.getElem_cons_succ]); (try simp only [List.getElem_cons_zero]); (try simp only [Act.put]); (try simp only [List.setIfInBounds_toArray]); (try simp only [List.set_cons_succ]); (try simp only [List.set_cons_zero])
      refine wpAnyH_take (i := 23) (v := ?v22) rfl (by kernel_rfl) (by kernel_rfl) (by kernel_rfl) (fun _ _ _ h => h) (Or.inl ⟨by rfl, ?hy22⟩) hHeld ?rest22
      case hy22 => (intro w hSw; (try dsimp only at hSw); (try go_split_ands); go_simp; first | done | with_reducible rfl)
      (try simp only [List.getElem_toArray]); (try simp only [List.getElem_cons_succ]); (try simp only [List.getElem_cons_zero]); (try simp only [Act.put]); (try simp only [List.setIfInBounds_toArray]); (try simp only [List.set_cons_succ]); (try simp only [List.set_cons_zero])
      refine wpAnyH_take (i := 24) rfl (by kernel_rfl) (by kernel_rfl) (by kernel_rfl) (fun _ _ _ h => h) (yieldsIf_load_row (by rfl) 25 _ rfl _ rfl 25 _ (0, 0) _ (fun _ h => h.2.2.1) Try.underlying25 rfl (by kernel_rfl)) hHeld ?_
      (try simp only [List.getElem_toArray]); (try simp only [List.getElem_cons_succ]); (try simp only [List.getElem_cons_zero]); (try simp only [Act.put]); (try simp only [List.setIfInBounds_toArray]); (try simp only [List.set_cons_succ]); (try simp only [List.set_cons_zero])
      refine wpAnyH_take (i := 25) (v := ?v23) rfl (by kernel_rfl) (by kernel_rfl) (by kernel_rfl) (fun _ _ _ h => h) (Or.inl ⟨by rfl, ?hy23⟩) hHeld ?rest23
      case hy23 => (intro w hSw; (try dsimp only at hSw); (try go_split_ands); go_simp; first | done | with_reducible rfl)
      (try simp only [List.getElem_toArray]); (try simp only [List.getElem_cons_succ]); (try simp only [List.getElem_cons_zero]); (try simp only [Act.put]); (try simp only [List.setIfInBounds_toArray]); (try simp only [List.set_cons_succ]); (try simp only [List.set_cons_zero])
      refine wpAnyH_take (i := 27) rfl (by kernel_rfl) (by kernel_rfl) (by kernel_rfl) (fun _ _ _ h => h) (yieldsIf_load_row (by rfl) 25 _ rfl _ rfl 25 _ (0, 0) _ (fun _ h => h.1) Try.underlying25 rfl (by kernel_rfl)) hHeld ?_
      (try simp only [List.getElem_toArray]); (try simp only [List.getElem_cons_succ]); (try simp only [List.getElem_cons_zero]); (try simp only [Act.put]); (try simp only [List.setIfInBounds_toArray]); (try simp only [List.set_cons_succ]); (try simp only [List.set_cons_zero])
      refine wpAnyH_take (i := 28) (v := ?v24) rfl (by kernel_rfl) (by kernel_rfl) (by kernel_rfl) (fun _ _ _ h => h) (Or.inl ⟨by rfl, ?hy24⟩) hHeld ?rest24
      case hy24 => (intro w hSw; (try dsimp only at hSw); (try go_split_ands); go_simp; first | done | with_reducible rfl)
      (try simp only [List.getElem_toArray]); (try simp only [List.getElem_cons_succ]); (try simp only [List.getElem_cons_zero]); (try simp only [Act.put]); (try simp only [List.setIfInBounds_toArray]); (try simp only [List.set_cons_succ]); (try simp only [List.set_cons_zero])
      refine wpAnyH_ready (rs := [26]) (by kernel_rfl) (by simp) ?_
      refine AllReadyH.cons rfl (fun K hK => ?_) AllReadyH.nil
      go_simp
      refine (pc.count _ ta p _ _ _ _ W11 S11.out.oldX (S11.out.g 1 rfl) HZA.out HRA.out).mono ?_
      rintro e W12 ⟨rfl, hb⟩
      rw [HCN.out, Int.natCast_succ]
      have S12 := Lib.hid (S11.out.call hb)
      clear hb hHeld
      go_wp2_with fail
      refine hK.out _ _ ⟨(S12.out.at 0 rfl), (S12.out.at 1 rfl), (S12.out.at 2 rfl), (S12.out.at 3 rfl), (S12.out.at 4 rfl), (by have h := (cells6 (S12.out.at 5 rfl)).2.2.2.2.1; rw [HZ1.out] at h; exact h), (by have h := (cells6 (S12.out.at 5 rfl)).1; rw [HZ2.out] at h; exact h), (cells6 (S12.out.at 1 rfl)).1, trivial⟩ (fun hHeld => ?_)
      clear hK K
      (try simp only [List.getElem_toArray]); (try simp only [List.getElem_cons_succ]); (try simp only [List.getElem_cons_zero]); (try simp only [Act.put]); (try simp only [List.setIfInBounds_toArray]); (try simp only [List.set_cons_succ]); (try simp only [List.set_cons_zero])
      refine wpAnyH_ready (rs := [29]) (by kernel_rfl) (by simp) ?_
      refine AllReadyH.cons rfl (fun K hK => ?_) AllReadyH.nil
      go_simp
      refine (pc.count _ t p _ _ _ _ W12 S12.out.oldX (S12.out.g 0 rfl) HSZ.out HFB.out.2).mono ?_
      rintro e W13 ⟨rfl, hb⟩
      rw [← HCN2.out]
      have S13 := Lib.hid (S12.out.call hb)
      clear hb hHeld
      go_wp2_with fail
      refine hK.out _ _ ⟨(S13.out.at 0 rfl), (S13.out.at 1 rfl), (S13.out.at 2 rfl), (S13.out.at 3 rfl), (S13.out.at 4 rfl), (by have h := (cells6 (S13.out.at 5 rfl)).2.2.2.2.1; rw [HZ1.out] at h; exact h), (by have h := (cells6 (S13.out.at 5 rfl)).1; rw [HZ2.out] at h; exact h), (cells6 (S13.out.at 1 rfl)).1, trivial⟩ (fun hHeld => ?_)
      clear hK K
      (try simp only [List.getElem_toArray]); (try simp only [List.getElem_cons_succ]); (try simp only [List.getElem_cons_zero]); (try simp only [Act.put]); (try simp only [List.setIfInBounds_toArray]); (try simp only [List.set_cons_succ]); (try simp only [List.set_cons_zero])
      refine wpAnyH_take (i := 30) (v := ?v25) rfl (by kernel_rfl) (by kernel_rfl) (by kernel_rfl) (fun _ _ _ h => h) (Or.inl ⟨by rfl, ?hy25⟩) hHeld ?rest25
      case hy25 => (intro w hSw; (try dsimp only at hSw); (try go_split_ands); go_simp; first | done | with_reducible rfl)
      (try simp only [List.getElem_toArray]); (try simp only [List.getElem_cons_succ]); (try simp only [List.getElem_cons_zero]); (try simp only [Act.put]); (try simp only [List.setIfInBounds_toArray]); (try simp only [List.set_cons_succ]); (try simp only [List.set_cons_zero])
      refine wpAnyH_take (i := 31) (v := ?v26) rfl (by kernel_rfl) (by kernel_rfl) (by kernel_rfl) (fun _ _ _ h => h) (Or.inl ⟨by rfl, ?hy26⟩) hHeld ?rest26
      case hy26 => (intro w hSw; (try dsimp only at hSw); (try go_split_ands); go_simp; first | done | with_reducible rfl)
      (try simp only [List.getElem_toArray]); (try simp only [List.getElem_cons_succ]); (try simp only [List.getElem_cons_zero]); (try simp only [Act.put]); (try simp only [List.setIfInBounds_toArray]); (try simp only [List.set_cons_succ]); (try simp only [List.set_cons_zero])
      refine wpAnyH_take (i := 32) (v := ?v27) rfl (by kernel_rfl) (by kernel_rfl) (by kernel_rfl) (fun _ _ _ h => h) (Or.inl ⟨by rfl, ?hy27⟩) hHeld ?rest27
      case hy27 => (intro w hSw; (try dsimp only at hSw); (try go_split_ands); go_simp; first | done | with_reducible rfl)
      (try simp only [List.getElem_toArray]); (try simp only [List.getElem_cons_succ]); (try simp only [List.getElem_cons_zero]); (try simp only [Act.put]); (try simp only [List.setIfInBounds_toArray]); (try simp only [List.set_cons_succ]); (try simp only [List.set_cons_zero])
      refine wpAnyH_take (i := 33) (v := ?v28) rfl (by kernel_rfl) (by kernel_rfl) (by kernel_rfl) (fun _ _ _ h => h) (Or.inl ⟨by rfl, ?hy28⟩) hHeld ?rest28
      case hy28 => (intro w hSw; (try dsimp only at hSw); (try go_split_ands); go_simp; first | done | with_reducible rfl)
      (try simp only [List.getElem_toArray]); (try simp only [List.getElem_cons_succ]); (try simp only [List.getElem_cons_zero]); (try simp only [Act.put]); (try simp only [List.setIfInBounds_toArray]); (try simp only [List.set_cons_succ]); (try simp only [List.set_cons_zero])
      refine wpAnyH_take (i := 34) rfl (by kernel_rfl) (by kernel_rfl) (by kernel_rfl) (fun _ _ _ h => h) (yieldsIf_load_row (by rfl) 25 _ rfl _ rfl 25 _ (0, 0) _ (fun _ h => h.2.2.2.2.1) Try.underlying25 rfl (by kernel_rfl)) hHeld ?_
      (try simp only [List.getElem_toArray]); (try simp only [List.getElem_cons_succ]); (try simp only [List.getElem_cons_zero]); (try simp only [Act.put]); (try simp only [List.setIfInBounds_toArray]); (try simp only [List.set_cons_succ]); (try simp only [List.set_cons_zero])
      refine wpAnyH_take (i := 36) rfl (by kernel_rfl) (by kernel_rfl) (by kernel_rfl) (fun _ _ _ h => h) (yieldsIf_load_row (by rfl) 25 _ rfl _ rfl 25 _ (0, 0) _ (fun _ h => h.1) Try.underlying25 rfl (by kernel_rfl)) hHeld ?_
      (try simp only [List.getElem_toArray]); (try simp only [List.getElem_cons_succ]); (try simp only [List.getElem_cons_zero]); (try simp only [Act.put]); (try simp only [List.setIfInBounds_toArray]); (try simp only [List.set_cons_succ]); (try simp only [List.set_cons_zero])
      refine wpAnyH_take (i := 37) (v := ?v29) rfl (by kernel_rfl) (by kernel_rfl) (by kernel_rfl) (fun _ _ _ h => h) (Or.inl ⟨by rfl, ?hy29⟩) hHeld ?rest29
      case hy29 => (intro w hSw; (try dsimp only at hSw); (try go_split_ands); go_simp; first | done | with_reducible rfl)
      (try simp only [List.getElem_toArray]); (try simp only [List.getElem_cons_succ]); (try simp only [List.getElem_cons_zero]); (try simp only [Act.put]); (try simp only [List.setIfInBounds_toArray]); (try simp only [List.set_cons_succ]); (try simp only [List.set_cons_zero])
      refine wpAnyH_ready (rs := [35]) (by kernel_rfl) (by simp) ?_
      refine AllReadyH.cons rfl (fun K hK => ?_) AllReadyH.nil
      go_simp
      refine (its_c _ tb _ _ _ _ W13 S13.out.oldX (S13.out.g 2 rfl) HZB.out).mono ?_
      rintro e W14 ⟨adi14, capi14, rfl, hT, hb⟩
      have S14 := Lib.hid ((S13.out.call hb).more (TabX.firm _ _ _) hT)
      clear hb hT hHeld
      go_wp2_with fail
      refine hK.out _ _ ⟨(S14.out.at 0 rfl), (S14.out.at 1 rfl), (S14.out.at 2 rfl), (S14.out.at 3 rfl), (S14.out.at 4 rfl), (by have h := (cells6 (S14.out.at 5 rfl)).2.2.2.2.1; rw [HZ1.out] at h; exact h), (by have h := (cells6 (S14.out.at 5 rfl)).1; rw [HZ2.out] at h; exact h), (cells6 (S14.out.at 1 rfl)).1, trivial⟩ (fun hHeld => ?_)
      clear hK K
      (try simp only [List.getElem_toArray]); (try simp only [List.getElem_cons_succ]); (try simp only [List.getElem_cons_zero]); (try simp only [Act.put]); (try simp only [List.setIfInBounds_toArray]); (try simp only [List.set_cons_succ]); (try simp only [List.set_cons_zero])
      refine wpAnyH_ready (rs := [38]) (by kernel_rfl) (by simp) ?_
      refine AllReadyH.cons rfl (fun K hK => ?_) AllReadyH.nil
      go_simp
      refine (padded_c _ t fr _ _ _ _ W14 S14.out.oldX (S14.out.g 0 rfl) HSZ.out).mono ?_
      rintro e W15 ⟨adp, capp, rfl, hT, hb⟩
      rw [← HTB.out] at hT ⊢
      have S15 := Lib.hid ((S14.out.call hb).more (TabX.firm _ _ _) hT)
      clear hb hT hHeld
      go_wp2_with fail
      refine hK.out _ _ ⟨(S15.out.at 0 rfl), (S15.out.at 1 rfl), (S15.out.at 2 rfl), (S15.out.at 3 rfl), (S15.out.at 4 rfl), (by have h := (cells6 (S15.out.at 5 rfl)).2.2.2.2.1; rw [HZ1.out] at h; exact h), (by have h := (cells6 (S15.out.at 5 rfl)).1; rw [HZ2.out] at h; exact h), (cells6 (S15.out.at 1 rfl)).1, trivial⟩ (fun hHeld => ?_)
      clear hK K
      (try simp only [List.getElem_toArray]); (try simp only [List.getElem_cons_succ]); (try simp only [List.getElem_cons_zero]); (try simp only [Act.put]); (try simp only [List.setIfInBounds_toArray]); (try simp only [List.set_cons_succ]); (try simp only [List.set_cons_zero])
      refine wpAnyH_ready (rs := [39]) (by kernel_rfl) (by simp) ?_
      refine AllReadyH.cons rfl (fun K hK => ?_) AllReadyH.nil
      go_simp
      refine (rsameH_c tb _ _ _ _ _ _ _ _ W15 (S15.out.g 3 rfl) (S15.out.g 4 rfl) HZB.out).mono ?_
      rintro e W16 ⟨rfl, hb⟩
      have S16 := Lib.hid (S15.out.call hb)
      clear hb hHeld
      go_wp2_with fail
      refine hK.out _ _ ⟨(S16.out.at 0 rfl), (S16.out.at 1 rfl), (S16.out.at 2 rfl), (S16.out.at 3 rfl), (S16.out.at 4 rfl), (by have h := (cells6 (S16.out.at 5 rfl)).2.2.2.2.1; rw [HZ1.out] at h; exact h), (by have h := (cells6 (S16.out.at 5 rfl)).1; rw [HZ2.out] at h; exact h), (cells6 (S16.out.at 1 rfl)).1, trivial⟩ (fun hHeld => ?_)
      clear hK K
      (try simp only [List.getElem_toArray]); (try simp only [List.getElem_cons_succ]); (try simp only [List.getElem_cons_zero]); (try simp only [Act.put]); (try simp only [List.setIfInBounds_toArray]); (try simp only [List.set_cons_succ]); (try simp only [List.set_cons_zero])
      refine wpAnyH_take (i := 40) (v := ?v30) rfl (by kernel_rfl) (by kernel_rfl) (by kernel_rfl) (fun _ _ _ h => h) (Or.inl ⟨by rfl, ?hy30⟩) hHeld ?rest30
      case hy30 => (intro w hSw; (try dsimp only at hSw); (try go_split_ands); go_simp; first | done | with_reducible rfl)
      (try simp only [List.getElem_toArray]); (try simp only [List.getElem_cons_succ]); (try simp only [List.getElem_cons_zero]); (try simp only [Act.put]); (try simp only [List.setIfInBounds_toArray]); (try simp only [List.set_cons_succ]); (try simp only [List.set_cons_zero])
      refine wpAnyH_take (i := 41) (v := ?v31) rfl (by kernel_rfl) (by kernel_rfl) (by kernel_rfl) (fun _ _ _ h => h) (Or.inl ⟨by rfl, ?hy31⟩) hHeld ?rest31
      case hy31 => (intro w hSw; (try dsimp only at hSw); (try go_split_ands); go_simp; first | done | with_reducible rfl)
      (try simp only [List.getElem_toArray]); (try simp only [List.getElem_cons_succ]); (try simp only [List.getElem_cons_zero]); (try simp only [Act.put]); (try simp only [List.setIfInBounds_toArray]); (try simp only [List.set_cons_succ]); (try simp only [List.set_cons_zero])
      refine wpAnyH_done (by kernel_rfl) ?_ _
      go_upto_region 10 with (fail)
      clear heq hyy wcn hin hin2 hcc hcc2
      go_upto_region 10 with (fail)
      have h_d := (S16.out.at 0 rfl)
      go_wp2_with (first | (refine wpList_load_row rfl 25 _ rfl _ rfl 25 _ (0, 0) _ h_d Try.underlying25 rfl (by kernel_rfl) ?_) | (refine wpList_load_rowG rfl 25 _ rfl _ rfl 25 _ (0, 0) _ h_d Try.underlying25 rfl (by kernel_rfl) ?_))
      refine (pc.dup _ t p fd _ _ _ _ W16 S16.out.oldX (S16.out.g 0 rfl) HSZ.out HFB.out.2).mono ?_
      rintro e W17 ⟨vd17, vf17, rfl, hT17, hb⟩
      obtain ⟨ad17, cap17, af17, capf17, rfl, rfl⟩ := hT17.form
      clear h_d
      obtain ⟨tc, htc⟩ : ∃ tc, tc = (dupT t p fd).1 := ⟨_, rfl⟩
      rw [← htc] at hT17 ⊢
      obtain ⟨tc1, htc1⟩ : ∃ tc1, tc1 = (dupT t p fd).2.1 := ⟨_, rfl⟩
      obtain ⟨tc2, htc2⟩ : ∃ tc2, tc2 = (dupT t p fd).2.2 := ⟨_, rfl⟩
      rw [← htc1, ← htc2]
      have Htc1 := Lib.hid htc1
      have Htc2 := Lib.hid htc2
      clear htc1 htc2
      have Htc := Lib.hid htc
      have S17 := Lib.hid ((S16.out.call hb).more (TabX.firm _ _ _) hT17)
      clear htc hb hT17
      go_upto_region 11 with (fail)
      refine code_fresh1 ?_
      intro W18 hb hA0 hs
      have S18 := Lib.hid (S17.out.new1 hb hA0)
      clear hb hA0 hs
      have HZC := Lib.hid (show SizeT tc by rw [Htc.out]; exact size_T (size_dup HFB.out.1 p fd) (by decide))
      have HRC := Lib.hid (show RightT tc by rw [Htc.out]; exact right_dup HFB.out.2 p fd)
      by_cases hf : tc2 = 0
      · have HBD := Lib.hid (back_dup' HFB.out.2 Htc.out Htc1.out Htc2.out hf)
        have e1 : (tc2 == 0) = true := by simpa using hf
        have e2 : decide (tc2 = 0) = true := decide_eq_true hf
        have e3 : (tc2 != 0) = false := by simpa using hf
        clear hf
        go_upto_region 12 with (fail)
        clear e1 e2 e3
        have h_c := (S18.out.at 6 rfl)
        go_wp2_with (first | (refine wpList_load_row rfl 25 _ rfl _ rfl 25 _ (0, 0) _ h_c Try.underlying25 rfl (by kernel_rfl) ?_) | (refine wpList_load_rowG rfl 25 _ rfl _ rfl 25 _ (0, 0) _ h_c Try.underlying25 rfl (by kernel_rfl) ?_))
        refine (pc.get _ tc p tc1 _ _ _ _ W18 S18.out.oldX (S18.out.g 5 rfl) HZC.out HRC.out).mono ?_
        rintro e W19 ⟨hgot, hb⟩
        clear h_c
        have S19 := Lib.hid (S18.out.call hb)
        unfold GotIs at hgot
        subst hgot
        rw [HBD.out.2.1, HBD.out.2.2.1]
        clear hb
        obtain ⟨pl, hpl⟩ : ∃ pl, pl = placeT t p fd := ⟨_, rfl⟩
        obtain ⟨fc, hfc⟩ : ∃ fc, fc = foundT tc p tc1 := ⟨_, rfl⟩
        obtain ⟨fy, hfy⟩ : ∃ fy, fy = foundT t p fd := ⟨_, rfl⟩
        have HPL := Lib.hid hpl
        have HFY := Lib.hid hfy
        have HFC := Lib.hid (show fc.refs = fy.refs + 1 by rw [hfc, hfy]; exact HBD.out.2.2.2.1)
        have hfs := found_small HFB.out.2 HSZ.out p fd
        rw [← hfy] at hfs
        have wfs : IntKind.i64.wrap (fy.refs + 1) = fy.refs + 1 := Go.IntWalk.i64_in _ (by omega)
        rw [← hpl, ← hfc]
        clear hpl hfy hfc hfs
        go_upto_region 13 with (fail)
        refine code_fresh1 ?_
        intro W20 hb hA0 hs
        have S20 := Lib.hid (S19.out.new1 hb hA0)
        clear hb hA0 hs
        have h_d := (S20.out.at 0 rfl)
        go_wp2_with (first | (refine wpList_load_row rfl 25 _ rfl _ rfl 25 _ (0, 0) _ h_d Try.underlying25 rfl (by kernel_rfl) ?_) | (refine wpList_load_rowG rfl 25 _ rfl _ rfl 25 _ (0, 0) _ h_d Try.underlying25 rfl (by kernel_rfl) ?_))
        refine (pc.get _ t p fd _ _ _ _ W20 S20.out.oldX (S20.out.g 0 rfl) HSZ.out HFB.out.2).mono ?_
        rintro e W21 ⟨hgot, hb⟩
        clear h_d
        have S21 := Lib.hid (S20.out.call hb)
        unfold GotIs at hgot
        subst hgot
        rw [HBD.out.1, ← HPL.out, ← HFY.out]
        clear hb
        go_upto_region 14 with (fail)
        refine code_fresh1 ?_
        intro W22 hb hA0 hs
        have S22 := Lib.hid (S21.out.new1 hb hA0)
        clear hb hA0 hs
        have h_c := (S22.out.at 6 rfl)
        go_wp2_with (first | (refine wpList_load_row rfl 25 _ rfl _ rfl 25 _ (0, 0) _ h_c Try.underlying25 rfl (by kernel_rfl) ?_) | (refine wpList_load_rowG rfl 25 _ rfl _ rfl 25 _ (0, 0) _ h_c Try.underlying25 rfl (by kernel_rfl) ?_))
        refine (pc.close _ tc p tc1 _ _ _ _ W22 S22.out.oldX (S22.out.g 5 rfl) HZC.out HRC.out).mono ?_
        rintro e W23 ⟨vd23, vf23, rfl, hT23, hb⟩
        obtain ⟨ad23, cap23, af23, capf23, rfl, rfl⟩ := hT23.form
        clear h_c
        obtain ⟨td1, htd1⟩ : ∃ td1, td1 = (closeT tc p tc1).2.1 := ⟨_, rfl⟩
        rw [HBD.out.2.2.2.2.1] at hT23 ⊢
        rw [HBD.out.2.2.2.2.2, ← htd1]
        have S23 := Lib.hid ((S22.out.call hb).more (TabX.firm _ _ _) hT23)
        clear htd1 hb hT23
        go_upto_region 15 with (fail)
        refine code_fresh2 ?_
        intro W24 hb hA0 hA1 hs
        have S24 := Lib.hid (S23.out.new2 hb hA0 hA1)
        clear hb hA0 hA1 hs
        have hpp : (pl == pl) = true := beq_self_eq_true pl
        have hpp2 : decide (pl = pl) = true := decide_eq_true rfl
        have hrr : (fy.refs + 1 == fy.refs + 1) = true := beq_self_eq_true _
        have hrr2 : decide (fy.refs + 1 = fy.refs + 1) = true := decide_eq_true rfl
        have h_e := (S24.out.at 9 rfl)
        have h_d := (S24.out.at 0 rfl)
        refine wp_region_held_drew (S := fun W => W.heap[W23.heap.size]? = some (.cells #[.slice ad23 t.ds.length cap23, .slice af23 t.fs.length capf23] 25 (0, 0)) ∧ W.heap[w.heap.size]? = some (.cells #[.slice ad t.ds.length cap, .slice af t.fs.length capf] 25 (0, 0)) ∧ W.cell? ⟨W19.heap.size, 4, none⟩ = some (.int .i64 (fy.refs + 1)) ∧ W.cell? ⟨W21.heap.size, 4, none⟩ = some (.int .i64 fy.refs) ∧ True) (by kernel_rfl) ⟨(S24.out.at 9 rfl), (S24.out.at 0 rfl), (by have h := (cells6 (S24.out.at 7 rfl)).2.2.2.2.1; rw [HFC.out] at h; exact h), (cells6 (S24.out.at 8 rfl)).2.2.2.2.1, trivial⟩ (fun hHeld => ?_)
        clear h_e h_d
        have S25 := Lib.hid (S24.out.call (Below.refl W24.heap.size W24).drew)
        generalize W24.drew = W25 at *
        refine wpAnyH_take (i := 0) (v := ?v32) rfl (by kernel_rfl) (by kernel_rfl) (by kernel_rfl) (fun _ _ _ h => h) (Or.inl ⟨by rfl, ?hy32⟩) hHeld ?rest32
        case hy32 => (intro w hSw; (try dsimp only at hSw); (try go_split_ands); go_simp; first | done | with_reducible rfl)
        (try simp only [List.getElem_toArray]); (try simp only [List.getElem_cons_succ]); (try simp only [List.getElem_cons_zero]); (try simp only [Act.put]); (try simp only [List.setIfInBounds_toArray]); (try simp only [List.set_cons_succ]); (try simp only [List.set_cons_zero])
        refine wpAnyH_take (i := 1) (v := ?v33) rfl (by kernel_rfl) (by kernel_rfl) (by kernel_rfl) (fun _ _ _ h => h) (Or.inl ⟨by rfl, ?hy33⟩) hHeld ?rest33
        case hy33 => (intro w hSw; (try dsimp only at hSw); (try go_split_ands); go_simp; first | done | with_reducible rfl)
        (try simp only [List.getElem_toArray]); (try simp only [List.getElem_cons_succ]); (try simp only [List.getElem_cons_zero]); (try simp only [Act.put]); (try simp only [List.setIfInBounds_toArray]); (try simp only [List.set_cons_succ]); (try simp only [List.set_cons_zero])
        refine wpAnyH_take (i := 2) (v := ?v34) rfl (by kernel_rfl) (by kernel_rfl) (by kernel_rfl) (fun _ _ _ h => h) (Or.inl ⟨by rfl, ?hy34⟩) hHeld ?rest34
        case hy34 => (intro w hSw; (try dsimp only at hSw); (try go_split_ands); go_simp; first | done | with_reducible rfl)
        (try simp only [List.getElem_toArray]); (try simp only [List.getElem_cons_succ]); (try simp only [List.getElem_cons_zero]); (try simp only [Act.put]); (try simp only [List.setIfInBounds_toArray]); (try simp only [List.set_cons_succ]); (try simp only [List.set_cons_zero])
        refine wpAnyH_take (i := 3) (v := ?v35) rfl (by kernel_rfl) (by kernel_rfl) (by kernel_rfl) (fun _ _ _ h => h) (Or.inl ⟨by rfl, ?hy35⟩) hHeld ?rest35
        case hy35 => (intro w hSw; (try dsimp only at hSw); (try go_split_ands); go_simp; first | done | with_reducible rfl)
        (try simp only [List.getElem_toArray]); (try simp only [List.getElem_cons_succ]); (try simp only [List.getElem_cons_zero]); (try simp only [Act.put]); (try simp only [List.setIfInBounds_toArray]); (try simp only [List.set_cons_succ]); (try simp only [List.set_cons_zero])
        refine wpAnyH_take (i := 4) (v := ?v36) rfl (by kernel_rfl) (by kernel_rfl) (by kernel_rfl) (fun _ _ _ h => h) (Or.inl ⟨by rfl, ?hy36⟩) hHeld ?rest36
        case hy36 => (intro w hSw; (try dsimp only at hSw); (try go_split_ands); go_simp; first | done | with_reducible rfl)
        (try simp only [List.getElem_toArray]); (try simp only [List.getElem_cons_succ]); (try simp only [List.getElem_cons_zero]); (try simp only [Act.put]); (try simp only [List.setIfInBounds_toArray]); (try simp only [List.set_cons_succ]); (try simp only [List.set_cons_zero])
        refine wpAnyH_take (i := 5) (v := ?v37) rfl (by kernel_rfl) (by kernel_rfl) (by kernel_rfl) (fun _ _ _ h => h) (Or.inl ⟨by rfl, ?hy37⟩) hHeld ?rest37
        case hy37 => (intro w hSw; (try dsimp only at hSw); (try go_split_ands); go_simp; first | done | with_reducible rfl)
        (try simp only [List.getElem_toArray]); (try simp only [List.getElem_cons_succ]); (try simp only [List.getElem_cons_zero]); (try simp only [Act.put]); (try simp only [List.setIfInBounds_toArray]); (try simp only [List.set_cons_succ]); (try simp only [List.set_cons_zero])
        refine wpAnyH_take (i := 6) (v := ?v38) rfl (by kernel_rfl) (by kernel_rfl) (by kernel_rfl) (fun _ _ _ h => h) (Or.inl ⟨by rfl, ?hy38⟩) hHeld ?rest38
        case hy38 => (intro w hSw; (try dsimp only at hSw); (try go_split_ands); go_simp; first | done | with_reducible rfl)
        (try simp only [List.getElem_toArray]); (try simp only [List.getElem_cons_succ]); (try simp only [List.getElem_cons_zero]); (try simp only [Act.put]); (try simp only [List.setIfInBounds_toArray]); (try simp only [List.set_cons_succ]); (try simp only [List.set_cons_zero])
        refine wpAnyH_take (i := 7) (v := ?v39) rfl (by kernel_rfl) (by kernel_rfl) (by kernel_rfl) (fun _ _ _ h => h) (Or.inl ⟨by rfl, ?hy39⟩) hHeld ?rest39
        case hy39 => (intro w hSw; (try dsimp only at hSw); (try go_split_ands); go_simp; first | done | with_reducible rfl)
        (try simp only [List.getElem_toArray]); (try simp only [List.getElem_cons_succ]); (try simp only [List.getElem_cons_zero]); (try simp only [Act.put]); (try simp only [List.setIfInBounds_toArray]); (try simp only [List.set_cons_succ]); (try simp only [List.set_cons_zero])
        refine wpAnyH_take (i := 8) (v := ?v40) rfl (by kernel_rfl) (by kernel_rfl) (by kernel_rfl) (fun _ _ _ h => h) (Or.inl ⟨by rfl, ?hy40⟩) hHeld ?rest40
        case hy40 => (intro w hSw; (try dsimp only at hSw); (try go_split_ands); go_simp; first | done | with_reducible rfl)
        (try simp only [List.getElem_toArray]); (try simp only [List.getElem_cons_succ]); (try simp only [List.getElem_cons_zero]); (try simp only [Act.put]); (try simp only [List.setIfInBounds_toArray]); (try simp only [List.set_cons_succ]); (try simp only [List.set_cons_zero])
        refine wpAnyH_take (i := 9) (v := ?v41) rfl (by kernel_rfl) (by kernel_rfl) (by kernel_rfl) (fun _ _ _ h => h) (Or.inl ⟨by rfl, ?hy41⟩) hHeld ?rest41
        case hy41 => (intro w hSw; (try dsimp only at hSw); (try go_split_ands); go_simp; first | done | with_reducible rfl)
        (try simp only [List.getElem_toArray]); (try simp only [List.getElem_cons_succ]); (try simp only [List.getElem_cons_zero]); (try simp only [Act.put]); (try simp only [List.setIfInBounds_toArray]); (try simp only [List.set_cons_succ]); (try simp only [List.set_cons_zero])
        refine wpAnyH_take (i := 10) (v := ?v42) rfl (by kernel_rfl) (by kernel_rfl) (by kernel_rfl) (fun _ _ _ h => h) (Or.inl ⟨by rfl, ?hy42⟩) hHeld ?rest42
        case hy42 => (intro w hSw; (try dsimp only at hSw); (try go_split_ands); go_simp; first | done | with_reducible rfl)
        (try simp only [List.getElem_toArray]); (try simp only [List.getElem_cons_succ]); (try simp only [List.getElem_cons_zero]); (try simp only [Act.put]); (try simp only [List.setIfInBounds_toArray]); (try simp only [List.set_cons_succ]); (try simp only [List.set_cons_zero])
        refine wpAnyH_take (i := 11) (v := ?v43) rfl (by kernel_rfl) (by kernel_rfl) (by kernel_rfl) (fun _ _ _ h => h) (Or.inl ⟨by rfl, ?hy43⟩) hHeld ?rest43
        case hy43 => (intro w hSw; (try dsimp only at hSw); (try go_split_ands); go_simp; first | done | with_reducible rfl)
        (try simp only [List.getElem_toArray]); (try simp only [List.getElem_cons_succ]); (try simp only [List.getElem_cons_zero]); (try simp only [Act.put]); (try simp only [List.setIfInBounds_toArray]); (try simp only [List.set_cons_succ]); (try simp only [List.set_cons_zero])
        refine wpAnyH_take (i := 12) (v := ?v44) rfl (by kernel_rfl) (by kernel_rfl) (by kernel_rfl) (fun _ _ _ h => h) (Or.inl ⟨by rfl, ?hy44⟩) hHeld ?rest44
        case hy44 => (intro w hSw; (try dsimp only at hSw); (try go_split_ands); go_simp; first | done | with_reducible rfl)
        (try simp only [List.getElem_toArray]); (try simp only [List.getElem_cons_succ]); (try simp only [List.getElem_cons_zero]); (try simp only [Act.put]); (try simp only [List.setIfInBounds_toArray]); (try simp only [List.set_cons_succ]); (try simp only [List.set_cons_zero])
        refine wpAnyH_take (i := 13) (v := ?v45) rfl (by kernel_rfl) (by kernel_rfl) (by kernel_rfl) (fun _ _ _ h => h) (Or.inl ⟨by rfl, ?hy45⟩) hHeld ?rest45
        case hy45 => (intro w hSw; (try dsimp only at hSw); (try go_split_ands); go_simp; first | done | with_reducible rfl)
        (try simp only [List.getElem_toArray]); (try simp only [List.getElem_cons_succ]); (try simp only [List.getElem_cons_zero]); (try simp only [Act.put]); (try simp only [List.setIfInBounds_toArray]); (try simp only [List.set_cons_succ]); (try simp only [List.set_cons_zero])
        refine wpAnyH_take (i := 14) (v := ?v46) rfl (by kernel_rfl) (by kernel_rfl) (by kernel_rfl) (fun _ _ _ h => h) (Or.inl ⟨by rfl, ?hy46⟩) hHeld ?rest46
        case hy46 => (intro w hSw; (try dsimp only at hSw); (try go_split_ands); go_simp; first | done | with_reducible rfl)
        (try simp only [List.getElem_toArray]); (try simp only [List.getElem_cons_succ]); (try simp only [List.getElem_cons_zero]); (try simp only [Act.put]); (try simp only [List.setIfInBounds_toArray]); (try simp only [List.set_cons_succ]); (try simp only [List.set_cons_zero])
        refine wpAnyH_take (i := 15) (v := ?v47) rfl (by kernel_rfl) (by kernel_rfl) (by kernel_rfl) (fun _ _ _ h => h) (Or.inl ⟨by rfl, ?hy47⟩) hHeld ?rest47
        case hy47 => (intro w hSw; (try dsimp only at hSw); (try go_split_ands); go_simp; first | done | with_reducible rfl)
        (try simp only [List.getElem_toArray]); (try simp only [List.getElem_cons_succ]); (try simp only [List.getElem_cons_zero]); (try simp only [Act.put]); (try simp only [List.setIfInBounds_toArray]); (try simp only [List.set_cons_succ]); (try simp only [List.set_cons_zero])
        refine wpAnyH_take (i := 16) (v := ?v48) rfl (by kernel_rfl) (by kernel_rfl) (by kernel_rfl) (fun _ _ _ h => h) (Or.inl ⟨by rfl, ?hy48⟩) hHeld ?rest48
        case hy48 => (intro w hSw; (try dsimp only at hSw); (try go_split_ands); go_simp; first | done | with_reducible rfl)
        (try simp only [List.getElem_toArray]); (try simp only [List.getElem_cons_succ]); (try simp only [List.getElem_cons_zero]); (try simp only [Act.put]); (try simp only [List.setIfInBounds_toArray]); (try simp only [List.set_cons_succ]); (try simp only [List.set_cons_zero])
        refine wpAnyH_take (i := 17) (v := ?v49) rfl (by kernel_rfl) (by kernel_rfl) (by kernel_rfl) (fun _ _ _ h => h) (Or.inl ⟨by rfl, ?hy49⟩) hHeld ?rest49
        case hy49 => (intro w hSw; (try dsimp only at hSw); (try go_split_ands); go_simp; first | done | with_reducible rfl)
        (try simp only [List.getElem_toArray]); (try simp only [List.getElem_cons_succ]); (try simp only [List.getElem_cons_zero]); (try simp only [Act.put]); (try simp only [List.setIfInBounds_toArray]); (try simp only [List.set_cons_succ]); (try simp only [List.set_cons_zero])
        refine wpAnyH_take (i := 18) (v := ?v50) rfl (by kernel_rfl) (by kernel_rfl) (by kernel_rfl) (fun _ _ _ h => h) (Or.inl ⟨by rfl, ?hy50⟩) hHeld ?rest50
        case hy50 => (intro w hSw; (try dsimp only at hSw); (try go_split_ands); go_simp; first | done | with_reducible rfl)
        (try simp only [List.getElem_toArray]); (try simp only [List.getElem_cons_succ]); (try simp only [List.getElem_cons_zero]); (try simp only [Act.put]); (try simp only [List.setIfInBounds_toArray]); (try simp only [List.set_cons_succ]); (try simp only [List.set_cons_zero])
        refine wpAnyH_take (i := 19) (v := ?v51) rfl (by kernel_rfl) (by kernel_rfl) (by kernel_rfl) (fun _ _ _ h => h) (Or.inl ⟨by rfl, ?hy51⟩) hHeld ?rest51
        case hy51 => (intro w hSw; (try dsimp only at hSw); (try go_split_ands); go_simp; first | done | with_reducible rfl)
        (try simp only [List.getElem_toArray]); (try simp only [List.getElem_cons_succ]); (try simp only [List.getElem_cons_zero]); (try simp only [Act.put]); (try simp only [List.setIfInBounds_toArray]); (try simp only [List.set_cons_succ]); (try simp only [List.set_cons_zero])
        refine wpAnyH_take (i := 20) (v := ?v52) rfl (by kernel_rfl) (by kernel_rfl) (by kernel_rfl) (fun _ _ _ h => h) (Or.inl ⟨by rfl, ?hy52⟩) hHeld ?rest52
        case hy52 => (intro w hSw; (try dsimp only at hSw); (try go_split_ands); go_simp; first | done | with_reducible rfl)
        (try simp only [List.getElem_toArray]); (try simp only [List.getElem_cons_succ]); (try simp only [List.getElem_cons_zero]); (try simp only [Act.put]); (try simp only [List.setIfInBounds_toArray]); (try simp only [List.set_cons_succ]); (try simp only [List.set_cons_zero])
        refine wpAnyH_take (i := 21) (v := ?v53) rfl (by kernel_rfl) (by kernel_rfl) (by kernel_rfl) (fun _ _ _ h => h) (Or.inl ⟨by rfl, ?hy53⟩) hHeld ?rest53
        case hy53 => (intro w hSw; (try dsimp only at hSw); (try go_split_ands); go_simp; first | done | with_reducible rfl)
        (try simp only [List.getElem_toArray]); (try simp only [List.getElem_cons_succ]); (try simp only [List.getElem_cons_zero]); (try simp only [Act.put]); (try simp only [List.setIfInBounds_toArray]); (try simp only [List.set_cons_succ]); (try simp only [List.set_cons_zero])
        refine wpAnyH_take (i := 22) (v := ?v54) rfl (by kernel_rfl) (by kernel_rfl) (by kernel_rfl) (fun _ _ _ h => h) (Or.inl ⟨by rfl, ?hy54⟩) hHeld ?rest54
        case hy54 => (intro w hSw; (try dsimp only at hSw); (try go_split_ands); go_simp; first | done | with_reducible rfl)
        (try simp only [List.getElem_toArray]); (try simp only [List.getElem_cons_succ]); (try simp only [List.getElem_cons_zero]); (try simp only [Act.put]); (try simp only [List.setIfInBounds_toArray]); (try simp only [List.set_cons_succ]); (try simp only [List.set_cons_zero])
        refine wpAnyH_take (i := 23) (v := ?v55) rfl (by kernel_rfl) (by kernel_rfl) (by kernel_rfl) (fun _ _ _ h => h) (Or.inl ⟨by rfl, ?hy55⟩) hHeld ?rest55
        case hy55 => (intro w hSw; (try dsimp only at hSw); (try go_split_ands); go_simp; first | done | with_reducible rfl)
        (try simp only [List.getElem_toArray]); (try simp only [List.getElem_cons_succ]); (try simp only [List.getElem_cons_zero]); (try simp only [Act.put]); (try simp only [List.setIfInBounds_toArray]); (try simp only [List.set_cons_succ]); (try simp only [List.set_cons_zero])
        refine wpAnyH_take (i := 24) rfl (by kernel_rfl) (by kernel_rfl) (by kernel_rfl) (fun _ _ _ h => h) (yieldsIf_load_row (by rfl) 25 _ rfl _ rfl 25 _ (0, 0) _ (fun _ h => h.1) Try.underlying25 rfl (by kernel_rfl)) hHeld ?_
        (try simp only [List.getElem_toArray]); (try simp only [List.getElem_cons_succ]); (try simp only [List.getElem_cons_zero]); (try simp only [Act.put]); (try simp only [List.setIfInBounds_toArray]); (try simp only [List.set_cons_succ]); (try simp only [List.set_cons_zero])
        refine wpAnyH_take (i := 26) rfl (by kernel_rfl) (by kernel_rfl) (by kernel_rfl) (fun _ _ _ h => h) (yieldsIf_load_row (by rfl) 25 _ rfl _ rfl 25 _ (0, 0) _ (fun _ h => h.2.1) Try.underlying25 rfl (by kernel_rfl)) hHeld ?_
        (try simp only [List.getElem_toArray]); (try simp only [List.getElem_cons_succ]); (try simp only [List.getElem_cons_zero]); (try simp only [Act.put]); (try simp only [List.setIfInBounds_toArray]); (try simp only [List.set_cons_succ]); (try simp only [List.set_cons_zero])
        refine wpAnyH_ready (rs := [25]) (by kernel_rfl) (by simp) ?_
        refine AllReadyH.cons rfl (fun K hK => ?_) AllReadyH.nil
        go_simp
        refine (its_c _ t _ _ _ _ W25 S25.out.oldX (S25.out.g 6 rfl) HSZ.out).mono ?_
        rintro e W26 ⟨adi26, capi26, rfl, hT, hb⟩
        have S26 := Lib.hid ((S25.out.call hb).more (TabX.firm _ _ _) hT)
        clear hb hT hHeld
        go_wp2_with fail
        refine hK.out _ _ ⟨(S26.out.at 9 rfl), (S26.out.at 0 rfl), (by have h := (cells6 (S26.out.at 7 rfl)).2.2.2.2.1; rw [HFC.out] at h; exact h), (cells6 (S26.out.at 8 rfl)).2.2.2.2.1, trivial⟩ (fun hHeld => ?_)
        clear hK K
        (try simp only [List.getElem_toArray]); (try simp only [List.getElem_cons_succ]); (try simp only [List.getElem_cons_zero]); (try simp only [Act.put]); (try simp only [List.setIfInBounds_toArray]); (try simp only [List.set_cons_succ]); (try simp only [List.set_cons_zero])
        refine wpAnyH_ready (rs := [27]) (by kernel_rfl) (by simp) ?_
        refine AllReadyH.cons rfl (fun K hK => ?_) AllReadyH.nil
        go_simp
        refine (its_c _ t _ _ _ _ W26 S26.out.oldX (S26.out.g 0 rfl) HSZ.out).mono ?_
        rintro e W27 ⟨adi27, capi27, rfl, hT, hb⟩
        have S27 := Lib.hid ((S26.out.call hb).more (TabX.firm _ _ _) hT)
        clear hb hT hHeld
        go_wp2_with fail
        refine hK.out _ _ ⟨(S27.out.at 9 rfl), (S27.out.at 0 rfl), (by have h := (cells6 (S27.out.at 7 rfl)).2.2.2.2.1; rw [HFC.out] at h; exact h), (cells6 (S27.out.at 8 rfl)).2.2.2.2.1, trivial⟩ (fun hHeld => ?_)
        clear hK K
        (try simp only [List.getElem_toArray]); (try simp only [List.getElem_cons_succ]); (try simp only [List.getElem_cons_zero]); (try simp only [Act.put]); (try simp only [List.setIfInBounds_toArray]); (try simp only [List.set_cons_succ]); (try simp only [List.set_cons_zero])
        refine wpAnyH_ready (rs := [28]) (by kernel_rfl) (by simp) ?_
        refine AllReadyH.cons rfl (fun K hK => ?_) AllReadyH.nil
        go_simp
        refine (rsameH_c t _ _ _ _ _ _ _ _ W27 (S27.out.g 7 rfl) (S27.out.g 8 rfl) HSZ.out).mono ?_
        rintro e W29 ⟨rfl, hb⟩
        have S29 := Lib.hid (S27.out.call hb)
        clear hb hHeld
        go_wp2_with fail
        refine hK.out _ _ ⟨(S29.out.at 9 rfl), (S29.out.at 0 rfl), (by have h := (cells6 (S29.out.at 7 rfl)).2.2.2.2.1; rw [HFC.out] at h; exact h), (cells6 (S29.out.at 8 rfl)).2.2.2.2.1, trivial⟩ (fun hHeld => ?_)
        clear hK K
        (try simp only [List.getElem_toArray]); (try simp only [List.getElem_cons_succ]); (try simp only [List.getElem_cons_zero]); (try simp only [Act.put]); (try simp only [List.setIfInBounds_toArray]); (try simp only [List.set_cons_succ]); (try simp only [List.set_cons_zero])
        refine wpAnyH_take (i := 29) (v := ?v56) rfl (by kernel_rfl) (by kernel_rfl) (by kernel_rfl) (fun _ _ _ h => h) (Or.inl ⟨by rfl, ?hy56⟩) hHeld ?rest56
        case hy56 => (intro w hSw; (try dsimp only at hSw); (try go_split_ands); go_simp; first | done | with_reducible rfl)
        (try simp only [List.getElem_toArray]); (try simp only [List.getElem_cons_succ]); (try simp only [List.getElem_cons_zero]); (try simp only [Act.put]); (try simp only [List.setIfInBounds_toArray]); (try simp only [List.set_cons_succ]); (try simp only [List.set_cons_zero])
        refine wpAnyH_take (i := 30) (v := ?v57) rfl (by kernel_rfl) (by kernel_rfl) (by kernel_rfl) (fun _ _ _ h => h) (Or.inl ⟨by rfl, ?hy57⟩) hHeld ?rest57
        case hy57 => (intro w hSw; (try dsimp only at hSw); (try go_split_ands); go_simp; first | done | with_reducible rfl)
        (try simp only [List.getElem_toArray]); (try simp only [List.getElem_cons_succ]); (try simp only [List.getElem_cons_zero]); (try simp only [Act.put]); (try simp only [List.setIfInBounds_toArray]); (try simp only [List.set_cons_succ]); (try simp only [List.set_cons_zero])
        refine wpAnyH_done (by kernel_rfl) ?_ _
        go_wp2_with fail
        go_ret
        exact ⟨rfl, S29.out.bel⟩
      · have e1 : (tc2 == 0) = false := by simpa using hf
        have e2 : decide (tc2 = 0) = false := decide_eq_false hf
        have e3 : (tc2 != 0) = true := by simpa using hf
        clear hf
        go_wp2_with fail
        go_ret
        exact ⟨rfl, S18.out.bel⟩
    · have e1 : (ta2 == 0) = false := by simpa using he
      have e2 : decide (ta2 = 0) = false := decide_eq_false he
      have e3 : (ta2 != 0) = true := by simpa using he
      clear he
      go_upto_region 10 with (fail)
      clear e1 e2 e3
      go_upto_region 10 with (fail)
      have h_d := (S5.out.at 0 rfl)
      go_wp2_with (first | (refine wpList_load_row rfl 25 _ rfl _ rfl 25 _ (0, 0) _ h_d Try.underlying25 rfl (by kernel_rfl) ?_) | (refine wpList_load_rowG rfl 25 _ rfl _ rfl 25 _ (0, 0) _ h_d Try.underlying25 rfl (by kernel_rfl) ?_))
      refine (pc.dup _ t p fd _ _ _ _ W5 S5.out.oldX (S5.out.g 0 rfl) HSZ.out HFB.out.2).mono ?_
      rintro e W6 ⟨vd6, vf6, rfl, hT6, hb⟩
      obtain ⟨ad6, cap6, af6, capf6, rfl, rfl⟩ := hT6.form
      clear h_d
      obtain ⟨tc, htc⟩ : ∃ tc, tc = (dupT t p fd).1 := ⟨_, rfl⟩
      rw [← htc] at hT6 ⊢
      obtain ⟨tc1, htc1⟩ : ∃ tc1, tc1 = (dupT t p fd).2.1 := ⟨_, rfl⟩
      obtain ⟨tc2, htc2⟩ : ∃ tc2, tc2 = (dupT t p fd).2.2 := ⟨_, rfl⟩
      rw [← htc1, ← htc2]
      have Htc1 := Lib.hid htc1
      have Htc2 := Lib.hid htc2
      clear htc1 htc2
      have Htc := Lib.hid htc
      have S6 := Lib.hid ((S5.out.call hb).more (TabX.firm _ _ _) hT6)
      clear htc hb hT6
      go_upto_region 11 with (fail)
      refine code_fresh1 ?_
      intro W7 hb hA0 hs
      have S7 := Lib.hid (S6.out.new1 hb hA0)
      clear hb hA0 hs
      have HZC := Lib.hid (show SizeT tc by rw [Htc.out]; exact size_T (size_dup HFB.out.1 p fd) (by decide))
      have HRC := Lib.hid (show RightT tc by rw [Htc.out]; exact right_dup HFB.out.2 p fd)
      by_cases hf : tc2 = 0
      · have HBD := Lib.hid (back_dup' HFB.out.2 Htc.out Htc1.out Htc2.out hf)
        have e1 : (tc2 == 0) = true := by simpa using hf
        have e2 : decide (tc2 = 0) = true := decide_eq_true hf
        have e3 : (tc2 != 0) = false := by simpa using hf
        clear hf
        go_upto_region 12 with (fail)
        clear e1 e2 e3
        have h_c := (S7.out.at 3 rfl)
        go_wp2_with (first | (refine wpList_load_row rfl 25 _ rfl _ rfl 25 _ (0, 0) _ h_c Try.underlying25 rfl (by kernel_rfl) ?_) | (refine wpList_load_rowG rfl 25 _ rfl _ rfl 25 _ (0, 0) _ h_c Try.underlying25 rfl (by kernel_rfl) ?_))
        refine (pc.get _ tc p tc1 _ _ _ _ W7 S7.out.oldX (S7.out.g 2 rfl) HZC.out HRC.out).mono ?_
        rintro e W8 ⟨hgot, hb⟩
        clear h_c
        have S8 := Lib.hid (S7.out.call hb)
        unfold GotIs at hgot
        subst hgot
        rw [HBD.out.2.1, HBD.out.2.2.1]
        clear hb
        obtain ⟨pl, hpl⟩ : ∃ pl, pl = placeT t p fd := ⟨_, rfl⟩
        obtain ⟨fc, hfc⟩ : ∃ fc, fc = foundT tc p tc1 := ⟨_, rfl⟩
        obtain ⟨fy, hfy⟩ : ∃ fy, fy = foundT t p fd := ⟨_, rfl⟩
        have HPL := Lib.hid hpl
        have HFY := Lib.hid hfy
        have HFC := Lib.hid (show fc.refs = fy.refs + 1 by rw [hfc, hfy]; exact HBD.out.2.2.2.1)
        have hfs := found_small HFB.out.2 HSZ.out p fd
        rw [← hfy] at hfs
        have wfs : IntKind.i64.wrap (fy.refs + 1) = fy.refs + 1 := Go.IntWalk.i64_in _ (by omega)
        rw [← hpl, ← hfc]
        clear hpl hfy hfc hfs
        go_upto_region 13 with (fail)
        refine code_fresh1 ?_
        intro W9 hb hA0 hs
        have S9 := Lib.hid (S8.out.new1 hb hA0)
        clear hb hA0 hs
        have h_d := (S9.out.at 0 rfl)
        go_wp2_with (first | (refine wpList_load_row rfl 25 _ rfl _ rfl 25 _ (0, 0) _ h_d Try.underlying25 rfl (by kernel_rfl) ?_) | (refine wpList_load_rowG rfl 25 _ rfl _ rfl 25 _ (0, 0) _ h_d Try.underlying25 rfl (by kernel_rfl) ?_))
        refine (pc.get _ t p fd _ _ _ _ W9 S9.out.oldX (S9.out.g 0 rfl) HSZ.out HFB.out.2).mono ?_
        rintro e W10 ⟨hgot, hb⟩
        clear h_d
        have S10 := Lib.hid (S9.out.call hb)
        unfold GotIs at hgot
        subst hgot
        rw [HBD.out.1, ← HPL.out, ← HFY.out]
        clear hb
        go_upto_region 14 with (fail)
        refine code_fresh1 ?_
        intro W11 hb hA0 hs
        have S11 := Lib.hid (S10.out.new1 hb hA0)
        clear hb hA0 hs
        have h_c := (S11.out.at 3 rfl)
        go_wp2_with (first | (refine wpList_load_row rfl 25 _ rfl _ rfl 25 _ (0, 0) _ h_c Try.underlying25 rfl (by kernel_rfl) ?_) | (refine wpList_load_rowG rfl 25 _ rfl _ rfl 25 _ (0, 0) _ h_c Try.underlying25 rfl (by kernel_rfl) ?_))
        refine (pc.close _ tc p tc1 _ _ _ _ W11 S11.out.oldX (S11.out.g 2 rfl) HZC.out HRC.out).mono ?_
        rintro e W12 ⟨vd12, vf12, rfl, hT12, hb⟩
        obtain ⟨ad12, cap12, af12, capf12, rfl, rfl⟩ := hT12.form
        clear h_c
        obtain ⟨td1, htd1⟩ : ∃ td1, td1 = (closeT tc p tc1).2.1 := ⟨_, rfl⟩
        rw [HBD.out.2.2.2.2.1] at hT12 ⊢
        rw [HBD.out.2.2.2.2.2, ← htd1]
        have S12 := Lib.hid ((S11.out.call hb).more (TabX.firm _ _ _) hT12)
        clear htd1 hb hT12
        go_upto_region 15 with (fail)
        refine code_fresh2 ?_
        intro W13 hb hA0 hA1 hs
        have S13 := Lib.hid (S12.out.new2 hb hA0 hA1)
        clear hb hA0 hA1 hs
        have hpp : (pl == pl) = true := beq_self_eq_true pl
        have hpp2 : decide (pl = pl) = true := decide_eq_true rfl
        have hrr : (fy.refs + 1 == fy.refs + 1) = true := beq_self_eq_true _
        have hrr2 : decide (fy.refs + 1 = fy.refs + 1) = true := decide_eq_true rfl
        have h_e := (S13.out.at 6 rfl)
        have h_d := (S13.out.at 0 rfl)
        refine wp_region_held_drew (S := fun W => W.heap[W12.heap.size]? = some (.cells #[.slice ad12 t.ds.length cap12, .slice af12 t.fs.length capf12] 25 (0, 0)) ∧ W.heap[w.heap.size]? = some (.cells #[.slice ad t.ds.length cap, .slice af t.fs.length capf] 25 (0, 0)) ∧ W.cell? ⟨W8.heap.size, 4, none⟩ = some (.int .i64 (fy.refs + 1)) ∧ W.cell? ⟨W10.heap.size, 4, none⟩ = some (.int .i64 fy.refs) ∧ True) (by kernel_rfl) ⟨(S13.out.at 6 rfl), (S13.out.at 0 rfl), (by have h := (cells6 (S13.out.at 4 rfl)).2.2.2.2.1; rw [HFC.out] at h; exact h), (cells6 (S13.out.at 5 rfl)).2.2.2.2.1, trivial⟩ (fun hHeld => ?_)
        clear h_e h_d
        have S14 := Lib.hid (S13.out.call (Below.refl W13.heap.size W13).drew)
        generalize W13.drew = W14 at *
        refine wpAnyH_take (i := 0) (v := ?v58) rfl (by kernel_rfl) (by kernel_rfl) (by kernel_rfl) (fun _ _ _ h => h) (Or.inl ⟨by rfl, ?hy58⟩) hHeld ?rest58
        case hy58 => (intro w hSw; (try dsimp only at hSw); (try go_split_ands); go_simp; first | done | with_reducible rfl)
        (try simp only [List.getElem_toArray]); (try simp only [List.getElem_cons_succ]); (try simp only [List.getElem_cons_zero]); (try simp only [Act.put]); (try simp only [List.setIfInBounds_toArray]); (try simp only [List.set_cons_succ]); (try simp only [List.set_cons_zero])
        refine wpAnyH_take (i := 1) (v := ?v59) rfl (by kernel_rfl) (by kernel_rfl) (by kernel_rfl) (fun _ _ _ h => h) (Or.inl ⟨by rfl, ?hy59⟩) hHeld ?rest59
        case hy59 => (intro w hSw; (try dsimp only at hSw); (try go_split_ands); go_simp; first | done | with_reducible rfl)
        (try simp only [List.getElem_toArray]); (try simp only [List.getElem_cons_succ]); (try simp only [List.getElem_cons_zero]); (try simp only [Act.put]); (try simp only [List.setIfInBounds_toArray]); (try simp only [List.set_cons_succ]); (try simp only [List.set_cons_zero])
        refine wpAnyH_take (i := 2) (v := ?v60) rfl (by kernel_rfl) (by kernel_rfl) (by kernel_rfl) (fun _ _ _ h => h) (Or.inl ⟨by rfl, ?hy60⟩) hHeld ?rest60
        case hy60 => (intro w hSw; (try dsimp only at hSw); (try go_split_ands); go_simp; first | done | with_reducible rfl)
        (try simp only [List.getElem_toArray]); (try simp only [List.getElem_cons_succ]); (try simp only [List.getElem_cons_zero]); (try simp only [Act.put]); (try simp only [List.setIfInBounds_toArray]); (try simp only [List.set_cons_succ]); (try simp only [List.set_cons_zero])
        refine wpAnyH_take (i := 3) (v := ?v61) rfl (by kernel_rfl) (by kernel_rfl) (by kernel_rfl) (fun _ _ _ h => h) (Or.inl ⟨by rfl, ?hy61⟩) hHeld ?rest61
        case hy61 => (intro w hSw; (try dsimp only at hSw); (try go_split_ands); go_simp; first | done | with_reducible rfl)
        (try simp only [List.getElem_toArray]); (try simp only [List.getElem_cons_succ]); (try simp only [List.getElem_cons_zero]); (try simp only [Act.put]); (try simp only [List.setIfInBounds_toArray]); (try simp only [List.set_cons_succ]); (try simp only [List.set_cons_zero])
        refine wpAnyH_take (i := 4) (v := ?v62) rfl (by kernel_rfl) (by kernel_rfl) (by kernel_rfl) (fun _ _ _ h => h) (Or.inl ⟨by rfl, ?hy62⟩) hHeld ?rest62
        case hy62 => (intro w hSw; (try dsimp only at hSw); (try go_split_ands); go_simp; first | done | with_reducible rfl)
        (try simp only [List.getElem_toArray]); (try simp only [List.getElem_cons_succ]); (try simp only [List.getElem_cons_zero]); (try simp only [Act.put]); (try simp only [List.setIfInBounds_toArray]); (try simp only [List.set_cons_succ]); (try simp only [List.set_cons_zero])
        refine wpAnyH_take (i := 5) (v := ?v63) rfl (by kernel_rfl) (by kernel_rfl) (by kernel_rfl) (fun _ _ _ h => h) (Or.inl ⟨by rfl, ?hy63⟩) hHeld ?rest63
        case hy63 => (intro w hSw; (try dsimp only at hSw); (try go_split_ands); go_simp; first | done | with_reducible rfl)
        (try simp only [List.getElem_toArray]); (try simp only [List.getElem_cons_succ]); (try simp only [List.getElem_cons_zero]); (try simp only [Act.put]); (try simp only [List.setIfInBounds_toArray]); (try simp only [List.set_cons_succ]); (try simp only [List.set_cons_zero])
        refine wpAnyH_take (i := 6) (v := ?v64) rfl (by kernel_rfl) (by kernel_rfl) (by kernel_rfl) (fun _ _ _ h => h) (Or.inl ⟨by rfl, ?hy64⟩) hHeld ?rest64
        case hy64 => (intro w hSw; (try dsimp only at hSw); (try go_split_ands); go_simp; first | done | with_reducible rfl)
        (try simp only [List.getElem_toArray]); (try simp only [List.getElem_cons_succ]); (try simp only [List.getElem_cons_zero]); (try simp only [Act.put]); (try simp only [List.setIfInBounds_toArray]); (try simp only [List.set_cons_succ]); (try simp only [List.set_cons_zero])
        refine wpAnyH_take (i := 7) (v := ?v65) rfl (by kernel_rfl) (by kernel_rfl) (by kernel_rfl) (fun _ _ _ h => h) (Or.inl ⟨by rfl, ?hy65⟩) hHeld ?rest65
        case hy65 => (intro w hSw; (try dsimp only at hSw); (try go_split_ands); go_simp; first | done | with_reducible rfl)
        (try simp only [List.getElem_toArray]); (try simp only [List.getElem_cons_succ]); (try simp only [List.getElem_cons_zero]); (try simp only [Act.put]); (try simp only [List.setIfInBounds_toArray]); (try simp only [List.set_cons_succ]); (try simp only [List.set_cons_zero])
        refine wpAnyH_take (i := 8) (v := ?v66) rfl (by kernel_rfl) (by kernel_rfl) (by kernel_rfl) (fun _ _ _ h => h) (Or.inl ⟨by rfl, ?hy66⟩) hHeld ?rest66
        case hy66 => (intro w hSw; (try dsimp only at hSw); (try go_split_ands); go_simp; first | done | with_reducible rfl)
        (try simp only [List.getElem_toArray]); (try simp only [List.getElem_cons_succ]); (try simp only [List.getElem_cons_zero]); (try simp only [Act.put]); (try simp only [List.setIfInBounds_toArray]); (try simp only [List.set_cons_succ]); (try simp only [List.set_cons_zero])
        refine wpAnyH_take (i := 9) (v := ?v67) rfl (by kernel_rfl) (by kernel_rfl) (by kernel_rfl) (fun _ _ _ h => h) (Or.inl ⟨by rfl, ?hy67⟩) hHeld ?rest67
        case hy67 => (intro w hSw; (try dsimp only at hSw); (try go_split_ands); go_simp; first | done | with_reducible rfl)
        (try simp only [List.getElem_toArray]); (try simp only [List.getElem_cons_succ]); (try simp only [List.getElem_cons_zero]); (try simp only [Act.put]); (try simp only [List.setIfInBounds_toArray]); (try simp only [List.set_cons_succ]); (try simp only [List.set_cons_zero])
        refine wpAnyH_take (i := 10) (v := ?v68) rfl (by kernel_rfl) (by kernel_rfl) (by kernel_rfl) (fun _ _ _ h => h) (Or.inl ⟨by rfl, ?hy68⟩) hHeld ?rest68
        case hy68 => (intro w hSw; (try dsimp only at hSw); (try go_split_ands); go_simp; first | done | with_reducible rfl)
        (try simp only [List.getElem_toArray]); (try simp only [List.getElem_cons_succ]); (try simp only [List.getElem_cons_zero]); (try simp only [Act.put]); (try simp only [List.setIfInBounds_toArray]); (try simp only [List.set_cons_succ]); (try simp only [List.set_cons_zero])
        refine wpAnyH_take (i := 11) (v := ?v69) rfl (by kernel_rfl) (by kernel_rfl) (by kernel_rfl) (fun _ _ _ h => h) (Or.inl ⟨by rfl, ?hy69⟩) hHeld ?rest69
        case hy69 => (intro w hSw; (try dsimp only at hSw); (try go_split_ands); go_simp; first | done | with_reducible rfl)
        (try simp only [List.getElem_toArray]); (try simp only [List.getElem_cons_succ]); (try simp only [List.getElem_cons_zero]); (try simp only [Act.put]); (try simp only [List.setIfInBounds_toArray]); (try simp only [List.set_cons_succ]); (try simp only [List.set_cons_zero])
        refine wpAnyH_take (i := 12) (v := ?v70) rfl (by kernel_rfl) (by kernel_rfl) (by kernel_rfl) (fun _ _ _ h => h) (Or.inl ⟨by rfl, ?hy70⟩) hHeld ?rest70
        case hy70 => (intro w hSw; (try dsimp only at hSw); (try go_split_ands); go_simp; first | done | with_reducible rfl)
        (try simp only [List.getElem_toArray]); (try simp only [List.getElem_cons_succ]); (try simp only [List.getElem_cons_zero]); (try simp only [Act.put]); (try simp only [List.setIfInBounds_toArray]); (try simp only [List.set_cons_succ]); (try simp only [List.set_cons_zero])
        refine wpAnyH_take (i := 13) (v := ?v71) rfl (by kernel_rfl) (by kernel_rfl) (by kernel_rfl) (fun _ _ _ h => h) (Or.inl ⟨by rfl, ?hy71⟩) hHeld ?rest71
        case hy71 => (intro w hSw; (try dsimp only at hSw); (try go_split_ands); go_simp; first | done | with_reducible rfl)
        (try simp only [List.getElem_toArray]); (try simp only [List.getElem_cons_succ]); (try simp only [List.getElem_cons_zero]); (try simp only [Act.put]); (try simp only [List.setIfInBounds_toArray]); (try simp only [List.set_cons_succ]); (try simp only [List.set_cons_zero])
        refine wpAnyH_take (i := 14) (v := ?v72) rfl (by kernel_rfl) (by kernel_rfl) (by kernel_rfl) (fun _ _ _ h => h) (Or.inl ⟨by rfl, ?hy72⟩) hHeld ?rest72
        case hy72 => (intro w hSw; (try dsimp only at hSw); (try go_split_ands); go_simp; first | done | with_reducible rfl)
        (try simp only [List.getElem_toArray]); (try simp only [List.getElem_cons_succ]); (try simp only [List.getElem_cons_zero]); (try simp only [Act.put]); (try simp only [List.setIfInBounds_toArray]); (try simp only [List.set_cons_succ]); (try simp only [List.set_cons_zero])
        refine wpAnyH_take (i := 15) (v := ?v73) rfl (by kernel_rfl) (by kernel_rfl) (by kernel_rfl) (fun _ _ _ h => h) (Or.inl ⟨by rfl, ?hy73⟩) hHeld ?rest73
        case hy73 => (intro w hSw; (try dsimp only at hSw); (try go_split_ands); go_simp; first | done | with_reducible rfl)
        (try simp only [List.getElem_toArray]); (try simp only [List.getElem_cons_succ]); (try simp only [List.getElem_cons_zero]); (try simp only [Act.put]); (try simp only [List.setIfInBounds_toArray]); (try simp only [List.set_cons_succ]); (try simp only [List.set_cons_zero])
        refine wpAnyH_take (i := 16) (v := ?v74) rfl (by kernel_rfl) (by kernel_rfl) (by kernel_rfl) (fun _ _ _ h => h) (Or.inl ⟨by rfl, ?hy74⟩) hHeld ?rest74
        case hy74 => (intro w hSw; (try dsimp only at hSw); (try go_split_ands); go_simp; first | done | with_reducible rfl)
        (try simp only [List.getElem_toArray]); (try simp only [List.getElem_cons_succ]); (try simp only [List.getElem_cons_zero]); (try simp only [Act.put]); (try simp only [List.setIfInBounds_toArray]); (try simp only [List.set_cons_succ]); (try simp only [List.set_cons_zero])
        refine wpAnyH_take (i := 17) (v := ?v75) rfl (by kernel_rfl) (by kernel_rfl) (by kernel_rfl) (fun _ _ _ h => h) (Or.inl ⟨by rfl, ?hy75⟩) hHeld ?rest75
        case hy75 => (intro w hSw; (try dsimp only at hSw); (try go_split_ands); go_simp; first | done | with_reducible rfl)
        (try simp only [List.getElem_toArray]); (try simp only [List.getElem_cons_succ]); (try simp only [List.getElem_cons_zero]); (try simp only [Act.put]); (try simp only [List.setIfInBounds_toArray]); (try simp only [List.set_cons_succ]); (try simp only [List.set_cons_zero])
        refine wpAnyH_take (i := 18) (v := ?v76) rfl (by kernel_rfl) (by kernel_rfl) (by kernel_rfl) (fun _ _ _ h => h) (Or.inl ⟨by rfl, ?hy76⟩) hHeld ?rest76
        case hy76 => (intro w hSw; (try dsimp only at hSw); (try go_split_ands); go_simp; first | done | with_reducible rfl)
        (try simp only [List.getElem_toArray]); (try simp only [List.getElem_cons_succ]); (try simp only [List.getElem_cons_zero]); (try simp only [Act.put]); (try simp only [List.setIfInBounds_toArray]); (try simp only [List.set_cons_succ]); (try simp only [List.set_cons_zero])
        refine wpAnyH_take (i := 19) (v := ?v77) rfl (by kernel_rfl) (by kernel_rfl) (by kernel_rfl) (fun _ _ _ h => h) (Or.inl ⟨by rfl, ?hy77⟩) hHeld ?rest77
        case hy77 => (intro w hSw; (try dsimp only at hSw); (try go_split_ands); go_simp; first | done | with_reducible rfl)
        (try simp only [List.getElem_toArray]); (try simp only [List.getElem_cons_succ]); (try simp only [List.getElem_cons_zero]); (try simp only [Act.put]); (try simp only [List.setIfInBounds_toArray]); (try simp only [List.set_cons_succ]); (try simp only [List.set_cons_zero])
        refine wpAnyH_take (i := 20) (v := ?v78) rfl (by kernel_rfl) (by kernel_rfl) (by kernel_rfl) (fun _ _ _ h => h) (Or.inl ⟨by rfl, ?hy78⟩) hHeld ?rest78
        case hy78 => (intro w hSw; (try dsimp only at hSw); (try go_split_ands); go_simp; first | done | with_reducible rfl)
        (try simp only [List.getElem_toArray]); (try simp only [List.getElem_cons_succ]); (try simp only [List.getElem_cons_zero]); (try simp only [Act.put]); (try simp only [List.setIfInBounds_toArray]); (try simp only [List.set_cons_succ]); (try simp only [List.set_cons_zero])
        refine wpAnyH_take (i := 21) (v := ?v79) rfl (by kernel_rfl) (by kernel_rfl) (by kernel_rfl) (fun _ _ _ h => h) (Or.inl ⟨by rfl, ?hy79⟩) hHeld ?rest79
        case hy79 => (intro w hSw; (try dsimp only at hSw); (try go_split_ands); go_simp; first | done | with_reducible rfl)
        (try simp only [List.getElem_toArray]); (try simp only [List.getElem_cons_succ]); (try simp only [List.getElem_cons_zero]); (try simp only [Act.put]); (try simp only [List.setIfInBounds_toArray]); (try simp only [List.set_cons_succ]); (try simp only [List.set_cons_zero])
        refine wpAnyH_take (i := 22) (v := ?v80) rfl (by kernel_rfl) (by kernel_rfl) (by kernel_rfl) (fun _ _ _ h => h) (Or.inl ⟨by rfl, ?hy80⟩) hHeld ?rest80
        case hy80 => (intro w hSw; (try dsimp only at hSw); (try go_split_ands); go_simp; first | done | with_reducible rfl)
        (try simp only [List.getElem_toArray]); (try simp only [List.getElem_cons_succ]); (try simp only [List.getElem_cons_zero]); (try simp only [Act.put]); (try simp only [List.setIfInBounds_toArray]); (try simp only [List.set_cons_succ]); (try simp only [List.set_cons_zero])
        refine wpAnyH_take (i := 23) (v := ?v81) rfl (by kernel_rfl) (by kernel_rfl) (by kernel_rfl) (fun _ _ _ h => h) (Or.inl ⟨by rfl, ?hy81⟩) hHeld ?rest81
        case hy81 => (intro w hSw; (try dsimp only at hSw); (try go_split_ands); go_simp; first | done | with_reducible rfl)
        (try simp only [List.getElem_toArray]); (try simp only [List.getElem_cons_succ]); (try simp only [List.getElem_cons_zero]); (try simp only [Act.put]); (try simp only [List.setIfInBounds_toArray]); (try simp only [List.set_cons_succ]); (try simp only [List.set_cons_zero])
        refine wpAnyH_take (i := 24) rfl (by kernel_rfl) (by kernel_rfl) (by kernel_rfl) (fun _ _ _ h => h) (yieldsIf_load_row (by rfl) 25 _ rfl _ rfl 25 _ (0, 0) _ (fun _ h => h.1) Try.underlying25 rfl (by kernel_rfl)) hHeld ?_
        (try simp only [List.getElem_toArray]); (try simp only [List.getElem_cons_succ]); (try simp only [List.getElem_cons_zero]); (try simp only [Act.put]); (try simp only [List.setIfInBounds_toArray]); (try simp only [List.set_cons_succ]); (try simp only [List.set_cons_zero])
        refine wpAnyH_take (i := 26) rfl (by kernel_rfl) (by kernel_rfl) (by kernel_rfl) (fun _ _ _ h => h) (yieldsIf_load_row (by rfl) 25 _ rfl _ rfl 25 _ (0, 0) _ (fun _ h => h.2.1) Try.underlying25 rfl (by kernel_rfl)) hHeld ?_
        (try simp only [List.getElem_toArray]); (try simp only [List.getElem_cons_succ]); (try simp only [List.getElem_cons_zero]); (try simp only [Act.put]); (try simp only [List.setIfInBounds_toArray]); (try simp only [List.set_cons_succ]); (try simp only [List.set_cons_zero])
        refine wpAnyH_ready (rs := [25]) (by kernel_rfl) (by simp) ?_
        refine AllReadyH.cons rfl (fun K hK => ?_) AllReadyH.nil
        go_simp
        refine (its_c _ t _ _ _ _ W14 S14.out.oldX (S14.out.g 3 rfl) HSZ.out).mono ?_
        rintro e W15 ⟨adi15, capi15, rfl, hT, hb⟩
        have S15 := Lib.hid ((S14.out.call hb).more (TabX.firm _ _ _) hT)
        clear hb hT hHeld
        go_wp2_with fail
        refine hK.out _ _ ⟨(S15.out.at 6 rfl), (S15.out.at 0 rfl), (by have h := (cells6 (S15.out.at 4 rfl)).2.2.2.2.1; rw [HFC.out] at h; exact h), (cells6 (S15.out.at 5 rfl)).2.2.2.2.1, trivial⟩ (fun hHeld => ?_)
        clear hK K
        (try simp only [List.getElem_toArray]); (try simp only [List.getElem_cons_succ]); (try simp only [List.getElem_cons_zero]); (try simp only [Act.put]); (try simp only [List.setIfInBounds_toArray]); (try simp only [List.set_cons_succ]); (try simp only [List.set_cons_zero])
        refine wpAnyH_ready (rs := [27]) (by kernel_rfl) (by simp) ?_
        refine AllReadyH.cons rfl (fun K hK => ?_) AllReadyH.nil
        go_simp
        refine (its_c _ t _ _ _ _ W15 S15.out.oldX (S15.out.g 0 rfl) HSZ.out).mono ?_
        rintro e W16 ⟨adi16, capi16, rfl, hT, hb⟩
        have S16 := Lib.hid ((S15.out.call hb).more (TabX.firm _ _ _) hT)
        clear hb hT hHeld
        go_wp2_with fail
        refine hK.out _ _ ⟨(S16.out.at 6 rfl), (S16.out.at 0 rfl), (by have h := (cells6 (S16.out.at 4 rfl)).2.2.2.2.1; rw [HFC.out] at h; exact h), (cells6 (S16.out.at 5 rfl)).2.2.2.2.1, trivial⟩ (fun hHeld => ?_)
        clear hK K
        (try simp only [List.getElem_toArray]); (try simp only [List.getElem_cons_succ]); (try simp only [List.getElem_cons_zero]); (try simp only [Act.put]); (try simp only [List.setIfInBounds_toArray]); (try simp only [List.set_cons_succ]); (try simp only [List.set_cons_zero])
        refine wpAnyH_ready (rs := [28]) (by kernel_rfl) (by simp) ?_
        refine AllReadyH.cons rfl (fun K hK => ?_) AllReadyH.nil
        go_simp
        refine (rsameH_c t _ _ _ _ _ _ _ _ W16 (S16.out.g 4 rfl) (S16.out.g 5 rfl) HSZ.out).mono ?_
        rintro e W18 ⟨rfl, hb⟩
        have S18 := Lib.hid (S16.out.call hb)
        clear hb hHeld
        go_wp2_with fail
        refine hK.out _ _ ⟨(S18.out.at 6 rfl), (S18.out.at 0 rfl), (by have h := (cells6 (S18.out.at 4 rfl)).2.2.2.2.1; rw [HFC.out] at h; exact h), (cells6 (S18.out.at 5 rfl)).2.2.2.2.1, trivial⟩ (fun hHeld => ?_)
        clear hK K
        (try simp only [List.getElem_toArray]); (try simp only [List.getElem_cons_succ]); (try simp only [List.getElem_cons_zero]); (try simp only [Act.put]); (try simp only [List.setIfInBounds_toArray]); (try simp only [List.set_cons_succ]); (try simp only [List.set_cons_zero])
        refine wpAnyH_take (i := 29) (v := ?v82) rfl (by kernel_rfl) (by kernel_rfl) (by kernel_rfl) (fun _ _ _ h => h) (Or.inl ⟨by rfl, ?hy82⟩) hHeld ?rest82
        case hy82 => (intro w hSw; (try dsimp only at hSw); (try go_split_ands); go_simp; first | done | with_reducible rfl)
        (try simp only [List.getElem_toArray]); (try simp only [List.getElem_cons_succ]); (try simp only [List.getElem_cons_zero]); (try simp only [Act.put]); (try simp only [List.setIfInBounds_toArray]); (try simp only [List.set_cons_succ]); (try simp only [List.set_cons_zero])
        refine wpAnyH_take (i := 30) (v := ?v83) rfl (by kernel_rfl) (by kernel_rfl) (by kernel_rfl) (fun _ _ _ h => h) (Or.inl ⟨by rfl, ?hy83⟩) hHeld ?rest83
        case hy83 => (intro w hSw; (try dsimp only at hSw); (try go_split_ands); go_simp; first | done | with_reducible rfl)
        (try simp only [List.getElem_toArray]); (try simp only [List.getElem_cons_succ]); (try simp only [List.getElem_cons_zero]); (try simp only [Act.put]); (try simp only [List.setIfInBounds_toArray]); (try simp only [List.set_cons_succ]); (try simp only [List.set_cons_zero])
        refine wpAnyH_done (by kernel_rfl) ?_ _
        go_wp2_with fail
        go_ret
        exact ⟨rfl, S18.out.bel⟩
      · have e1 : (tc2 == 0) = false := by simpa using hf
        have e2 : decide (tc2 = 0) = false := decide_eq_false hf
        have e3 : (tc2 != 0) = true := by simpa using hf
        clear hf
        go_wp2_with fail
        go_ret
        exact ⟨rfl, S7.out.bel⟩
end Go.Proofs.Ytbcmhjgjcknfmaa
