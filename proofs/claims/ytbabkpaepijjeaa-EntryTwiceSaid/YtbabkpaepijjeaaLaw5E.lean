/-
  The walk of EntryTwice.
-/
import Derived.Test.YtbabkpaepijjeaaLaw5C
import Derived.Deep.RegionHeld3
namespace Go.Proofs.Ytbabkpaepijjeaa
open Go.RowKit Go.Shelf
attribute [local go_sem ↓] Go.wp_at_zero Go.wp_at_succ

/-- Two entries in blocks of their own. -/
def Two (bx cy : Nat) (a b : Nm) (i j : Int) (W : World) : Prop :=
  bx < W.heap.size ∧ cy < W.heap.size ∧ W.cell? ⟨bx, 0, none⟩ = some (.string (bs a)) ∧ W.cell? ⟨bx, 1, none⟩ = some (.int .i64 i) ∧ W.cell? ⟨cy, 0, none⟩ = some (.string (bs b)) ∧ W.cell? ⟨cy, 1, none⟩ = some (.int .i64 j)
theorem Two.keep {bx cy : Nat} {a b : Nm} {i j : Int} {W W' : World} (h : Two bx cy a b i j W) (hb : Below W.heap.size W W') : Two bx cy a b i j W' := by
  obtain ⟨h1, h2, h3, h4, h5, h6⟩ := h
  have := hb.size
  exact ⟨by omega, by omega, (hb.cell (p := ⟨bx, 0, none⟩) h1).trans h3, (hb.cell (p := ⟨bx, 1, none⟩) h1).trans h4, (hb.cell (p := ⟨cy, 0, none⟩) h2).trans h5, (hb.cell (p := ⟨cy, 1, none⟩) h2).trans h6⟩
theorem Two.drew {bx cy : Nat} {a b : Nm} {i j : Int} {W : World} (h : Two bx cy a b i j W) (k : Nat) : Two bx cy a b i j (W.drewN k) := h
theorem Two.drew1 {bx cy : Nat} {a b : Nm} {i j : Int} {W : World} (h : Two bx cy a b i j W) : Two bx cy a b i j W.drew := h
theorem rd_drew1 {size n : Nat} {v : Value} {xs : List Value} {W : World} (h : Rd W.heap.size size v n xs W) : Rd W.drew.heap.size size v n xs W.drew := h
theorem Two.cells {bx cy : Nat} {a b : Nm} {i j : Int} {W : World} (h : Two bx cy a b i j W) : W.cell? ⟨bx, 0, none⟩ = some (.string (bs a)) ∧ W.cell? ⟨bx, 1, none⟩ = some (.int .i64 i) ∧ W.cell? ⟨cy, 0, none⟩ = some (.string (bs b)) ∧ W.cell? ⟨cy, 1, none⟩ = some (.int .i64 j) :=
  ⟨h.2.2.1, h.2.2.2.1, h.2.2.2.2.1, h.2.2.2.2.2⟩

set_option maxRecDepth 100000 in
set_option maxHeartbeats 8000000 in
theorem twice_fine (ao : Option Addr) (cap : Nat) (l : List EntL) (a b : Nm) (hs : a.length ≤ maxLen) (ht : b.length ≤ maxLen) (i j : Int) (w : World) (hv : Rd w.heap.size 2 (.slice ao l.length cap) l.length (ents l) w) (hn : Fit l) (hfi : fineB l = true) (hla : legalL a = 0) (hlb : legalL b = 0) :
    Calls Try.prog 6 #[.slice ao l.length cap, .string (bs a), .string (bs b), .int .i64 i, .int .i64 j] w fun e W' => e = .returned (.bool true) ∧ Below w.heap.size w W' := by
  obtain ⟨hl100, hso⟩ := fine_of hfi
  have HF := Lib.hid hfi
  have HS := Lib.hid hso
  have HU := Lib.hid hso.2
  have HLA := Lib.hid hla
  have HLB := Lib.hid hlb
  have HV := Lib.hid hv
  have HN := Lib.hid hn
  have hl : l.length ≤ 10000 := by omega
  clear hfi hso hla hlb hv hn
  go_enter Try.func6, Try.ntmps6
  go_wp2_with fail
  refine (fine_any _ l _ HV.out HN.out).mono ?_
  rintro e w0 ⟨rfl, hb0⟩
  rw [HF.out]
  have HV0 := Lib.hid (rd_keep HV.out hb0)
  have HB0 := Lib.hid hb0
  clear hb0
  go_wp2_with fail
  refine (rlegal_any a hs _).mono ?_
  rintro e w0' ⟨rfl, rfl⟩
  rw [HLA.out]
  go_wp2_with fail
  refine (rlegal_any b ht _).mono ?_
  rintro e w0' ⟨rfl, rfl⟩
  rw [HLB.out]
  go_wp2_with fail
  refine (shown_any _).mono ?_
  rintro e w1 ⟨rfl, hb1⟩
  have HV1 := Lib.hid (rd_keep HV0.out hb1)
  have HB1 := Lib.hid (ret_tr HB0.out hb1)
  clear hb1 HV HV0 HB0
  go_wp2_with fail
  have hba : Below w1.heap.size w1 ((w1.alloc (.cells #[.string (bs a), .int .i64 i] 43)).alloc (.cells #[.string (bs b), .int .i64 j] 43)) := ((Below.refl _ w1).alloc (Nat.le_refl _) _).alloc (by simp) _
  have htw : Two w1.heap.size (w1.heap.size + 1) a b i j ((w1.alloc (.cells #[.string (bs a), .int .i64 i] 43)).alloc (.cells #[.string (bs b), .int .i64 j] 43)) := by
    have h1 := heap_alloc_new w1 (.cells #[.string (bs a), .int .i64 i] 43)
    have h2 : ((w1.alloc (.cells #[.string (bs a), .int .i64 i] 43)).alloc (.cells #[.string (bs b), .int .i64 j] 43)).heap[w1.heap.size]? = _ := ((Below.refl _ (w1.alloc (.cells #[.string (bs a), .int .i64 i] 43))).alloc (Nat.le_refl _) _).block _ (by simp) |>.trans h1
    have h3 := heap_al2 w1 (.cells #[.string (bs a), .int .i64 i] 43) (.cells #[.string (bs b), .int .i64 j] 43)
    exact ⟨by simp; omega, by simp, by rw [Lib.cell_of_heap h2]; rfl, by rw [Lib.cell_of_heap h2]; rfl, by rw [Lib.cell_of_heap h3]; rfl, by rw [Lib.cell_of_heap h3]; rfl⟩
  have rl := rd_drew1 (rd_keep HV1.out hba)
  have hB := (ret_tr HB1.out hba).drew
  have kc := htw.drew1
  have c0 := htw.cells.1
  have c1 := htw.cells.2.1
  have d0 := htw.cells.2.2.1
  have d1 := htw.cells.2.2.2
  clear HV1 HB1 hba htw
  generalize (w1.alloc (.cells #[.string (bs a), .int .i64 i] 43)).alloc (.cells #[.string (bs b), .int .i64 j] 43) = W at *
  generalize w1.heap.size = bx at *
  have HP1 := Lib.hid (sorted_put HS.out (a, i) HLA.out)
  have HP2 := Lib.hid (sorted_put HP1.out (b, j) HLB.out)
  have HP3 := Lib.hid (sorted_put HS.out (b, j) HLB.out)
  have HP4 := Lib.hid (sorted_put HP3.out (a, i) HLA.out)
  have hz1 := put_len_up HU.out (a, i)
  have hz2 := put_len_up HP1.out.2 (b, j)
  have hz3 := put_len_up HU.out (b, j)
  have HPP := Lib.hid (fun h : a ≠ b => put_put l (a, i) (b, j) h)
  have HPL := Lib.hid (fun h : a ≠ b => put_put_len l (a, i) (b, j) h)
  have HPA := Lib.hid (fun h : a = b => put_again l (a, i) (b, j) h)
  generalize hQ1 : putL l (a, i) = Q1 at *
  generalize hQ3 : putL l (b, j) = Q3 at *
  generalize hQ2 : putL Q1 (b, j) = Q2 at *
  generalize hQ4 : putL Q3 (a, i) = Q4 at *
  have hq1 : Q1.length ≤ 10000 := by omega
  have hq3 : Q3.length ≤ 10000 := by omega
  have E1 := Lib.hid hQ1
  have E2 := Lib.hid hQ2
  have E3 := Lib.hid hQ3
  have E4 := Lib.hid hQ4
  have HU1 := Lib.hid (show Up Q1 from HP1.out.2)
  have HU3 := Lib.hid (show Up Q3 from HP3.out.2)
  clear hQ1 hQ2 hQ3 hQ4
  go_region_held3 (fun w' => w'.cell? ⟨bx, 0, none⟩ = some (.string (bs a)) ∧ w'.cell? ⟨bx, 1, none⟩ = some (.int .i64 i) ∧ w'.cell? ⟨bx + 1, 0, none⟩ = some (.string (bs b)) ∧ w'.cell? ⟨bx + 1, 1, none⟩ = some (.int .i64 j))
    (first
      | exact kc.cells
      | go_keep)
    (first
      | (go_at_call 24; with_reducible refine (put_any _ _ l a i _ rl (Nat.le_refl _) hl HU.out).mono ?_; intro e w' h; unfold GivesE at h; obtain ⟨v1, rfl, r1, hb⟩ := h; rw [E1.out] at r1; replace rl := rd_keep rl hb; replace hB := ret_tr hB hb; replace kc := kc.keep hb; clear hb)
      | (go_at_call 24; with_reducible refine (put_any _ _ Q1 b j _ r1 (Nat.le_refl _) hq1 HU1.out).mono ?_; intro e w' h; unfold GivesE at h; obtain ⟨v2, rfl, r2, hb⟩ := h; rw [E2.out] at r2; replace rl := rd_keep rl hb; replace hB := ret_tr hB hb; replace kc := kc.keep hb; clear hb)
      | fail)
  obtain ⟨ao2, cap2, rfl, _, _⟩ := r2.form
  have hq2 : Q2.length ≤ 10000000 := by omega
  by_cases hab : a = b
  · have hN : (a == b) = true := by rw [beq_iff_eq]; exact hab
    have H32 := Lib.hid (show Q3 = Q2 from (HPA.out hab).symm)
    clear hab
    clear c0 c1 d0 d1
    have c0 := kc.cells.1
    have c1 := kc.cells.2.1
    have d0 := kc.cells.2.2.1
    have d1 := kc.cells.2.2.2
    go_wp2_with fail
    have rp := rd_drew1 r2
    replace rl := rd_drew1 rl
    replace hB := hB.drew
    replace kc := kc.drew1
    clear r1 r2
    go_region_held3 (fun w' => w'.cell? ⟨bx, 0, none⟩ = some (.string (bs a)) ∧ w'.cell? ⟨bx, 1, none⟩ = some (.int .i64 i) ∧ w'.cell? ⟨bx + 1, 0, none⟩ = some (.string (bs b)) ∧ w'.cell? ⟨bx + 1, 1, none⟩ = some (.int .i64 j))
      (first
        | exact kc.cells
        | go_keep)
      (first
        | (go_at_call 14; with_reducible refine (its_any _ _ Q2 _ rp (Nat.le_refl _) hq2).mono ?_; intro e w' h; obtain ⟨vI, rfl, rI, hb⟩ := h; replace rl := rd_keep rl hb; replace rp := rd_keep rp hb; (try replace r3 := rd_keep r3 hb); (try replace r4 := rd_keep r4 hb); (try replace rI := rd_keep rI hb); (try replace rJ := rd_keep rJ hb); replace hB := ret_tr hB hb; replace kc := kc.keep hb; clear hb)
        | (go_at_call 24; with_reducible refine (put_any _ _ l b j _ rl (Nat.le_refl _) hl HU.out).mono ?_; intro e w' h; unfold GivesE at h; obtain ⟨v3, rfl, r3, hb⟩ := h; rw [E3.out, H32.out] at r3; replace rl := rd_keep rl hb; replace rp := rd_keep rp hb; (try replace r3 := rd_keep r3 hb); (try replace r4 := rd_keep r4 hb); (try replace rI := rd_keep rI hb); (try replace rJ := rd_keep rJ hb); replace hB := ret_tr hB hb; replace kc := kc.keep hb; clear hb)
        | (go_at_call 14; with_reducible refine (its_any _ _ Q2 _ r3 (Nat.le_refl _) hq2).mono ?_; intro e w' h; obtain ⟨vJ, rfl, rJ, hb⟩ := h; replace rl := rd_keep rl hb; replace rp := rd_keep rp hb; (try replace r3 := rd_keep r3 hb); (try replace r4 := rd_keep r4 hb); (try replace rI := rd_keep rI hb); (try replace rJ := rd_keep rJ hb); replace hB := ret_tr hB hb; replace kc := kc.keep hb; clear hb)
        | (go_at_call 18; with_reducible refine (same_any _ _ _ Q2 Q2 _ rI rJ hq2 hq2).mono ?_; intro e w' h; obtain ⟨rfl, nq, rfl⟩ := h; rw [dec_refl]; replace hB := below_drewN hB nq; replace kc := kc.drew nq)
        | fail)
    all_goals (
      go_wp2_with fail
      go_ret
      exact ⟨rfl, hB⟩)
  · have hN := beq_list_false hab
    have H42 := Lib.hid (show Q4 = Q2 from (HPP.out hab).symm)
    have hge := HPL.out hab
    have hge1 : decide (2 ≤ Q2.length) = true := by simpa using hge
    clear hab
    clear c0 c1 d0 d1
    have c0 := kc.cells.1
    have c1 := kc.cells.2.1
    have d0 := kc.cells.2.2.1
    have d1 := kc.cells.2.2.2
    go_wp2_with fail
    have rp := rd_drew1 r2
    replace rl := rd_drew1 rl
    replace hB := hB.drew
    replace kc := kc.drew1
    clear r1 r2
    go_region_held3 (fun w' => w'.cell? ⟨bx, 0, none⟩ = some (.string (bs a)) ∧ w'.cell? ⟨bx, 1, none⟩ = some (.int .i64 i) ∧ w'.cell? ⟨bx + 1, 0, none⟩ = some (.string (bs b)) ∧ w'.cell? ⟨bx + 1, 1, none⟩ = some (.int .i64 j))
      (first
        | exact kc.cells
        | go_keep)
      (first
        | (go_at_call 14; with_reducible refine (its_any _ _ Q2 _ rp (Nat.le_refl _) hq2).mono ?_; intro e w' h; obtain ⟨vI, rfl, rI, hb⟩ := h; replace rl := rd_keep rl hb; replace rp := rd_keep rp hb; (try replace r3 := rd_keep r3 hb); (try replace r4 := rd_keep r4 hb); (try replace rI := rd_keep rI hb); (try replace rJ := rd_keep rJ hb); replace hB := ret_tr hB hb; replace kc := kc.keep hb; clear hb)
        | (go_at_call 24; with_reducible refine (put_any _ _ l b j _ rl (Nat.le_refl _) hl HU.out).mono ?_; intro e w' h; unfold GivesE at h; obtain ⟨v3, rfl, r3, hb⟩ := h; rw [E3.out] at r3; replace rl := rd_keep rl hb; replace rp := rd_keep rp hb; (try replace r3 := rd_keep r3 hb); (try replace r4 := rd_keep r4 hb); (try replace rI := rd_keep rI hb); (try replace rJ := rd_keep rJ hb); replace hB := ret_tr hB hb; replace kc := kc.keep hb; clear hb)
        | (go_at_call 24; with_reducible refine (put_any _ _ Q3 a i _ r3 (Nat.le_refl _) hq3 HU3.out).mono ?_; intro e w' h; unfold GivesE at h; obtain ⟨v4, rfl, r4, hb⟩ := h; rw [E4.out, H42.out] at r4; replace rl := rd_keep rl hb; replace rp := rd_keep rp hb; (try replace r3 := rd_keep r3 hb); (try replace r4 := rd_keep r4 hb); (try replace rI := rd_keep rI hb); (try replace rJ := rd_keep rJ hb); replace hB := ret_tr hB hb; replace kc := kc.keep hb; clear hb)
        | (go_at_call 14; with_reducible refine (its_any _ _ Q2 _ r4 (Nat.le_refl _) hq2).mono ?_; intro e w' h; obtain ⟨vJ, rfl, rJ, hb⟩ := h; replace rl := rd_keep rl hb; replace rp := rd_keep rp hb; (try replace r3 := rd_keep r3 hb); (try replace r4 := rd_keep r4 hb); (try replace rI := rd_keep rI hb); (try replace rJ := rd_keep rJ hb); replace hB := ret_tr hB hb; replace kc := kc.keep hb; clear hb)
        | (go_at_call 18; with_reducible refine (same_any _ _ _ Q2 Q2 _ rI rJ hq2 hq2).mono ?_; intro e w' h; obtain ⟨rfl, nq, rfl⟩ := h; rw [dec_refl]; replace hB := below_drewN hB nq; replace kc := kc.drew nq)
        | fail)
    all_goals (
      go_wp2_with fail
      go_ret
      exact ⟨ret_bool (by first | rfl | (simp; omega)), hB⟩)

set_option maxRecDepth 100000 in
set_option maxHeartbeats 4000000 in
theorem twice_walk (v : Value) (l : List EntL) (s t : ByteArray) (hs : s.size ≤ maxLen) (ht : t.size ≤ maxLen) (i j : Int) (w : World) (hv : Rd w.heap.size 2 v l.length (ents l) w) (hn : Fit l) :
    Calls Try.prog 6 #[v, .string s, .string t, .int .i64 i, .int .i64 j] w fun e W' => e = .returned (.bool true) ∧ Below w.heap.size w W' := by
  obtain ⟨ao, cap, rfl, _, _⟩ := hv.form
  obtain ⟨a, rfl⟩ : ∃ n : Nm, s = bs n := ⟨_, bs_of s⟩
  obtain ⟨b, rfl⟩ : ∃ n : Nm, t = bs n := ⟨_, bs_of t⟩
  rw [bs_size] at hs ht
  cases hfi : fineB l with
  | false =>
    have HF := Lib.hid hfi
    have HV := Lib.hid hv
    have HN := Lib.hid hn
    clear hfi hv hn
    go_enter Try.func6, Try.ntmps6
    go_wp2_with fail
    refine (fine_any _ l _ HV.out HN.out).mono ?_
    rintro e w0 ⟨rfl, hb0⟩
    rw [HF.out]
    go_wp2_with fail
    refine (shown_any _).mono ?_
    rintro e w1 ⟨rfl, hb1⟩
    go_wp2_with fail
    go_ret
    exact ⟨rfl, ret_tr hb0 hb1⟩
  | true =>
    by_cases ha : legalL a = 0
    · by_cases hb : legalL b = 0
      · exact twice_fine ao cap l a b hs ht i j w hv hn hfi ha hb
      · have HF := Lib.hid hfi
        have HV := Lib.hid hv
        have HN := Lib.hid hn
        have HA := Lib.hid ha
        have hq2 : (legalL b != 0) = true := by rw [bne_iff_ne]; exact hb
        have HR := fun w => rlegal_any b ht w
        generalize legalL b = q at *
        clear hfi hv hn ha hb
        go_enter Try.func6, Try.ntmps6
        go_wp2_with fail
        refine (fine_any _ l _ HV.out HN.out).mono ?_
        rintro e w0 ⟨rfl, hb0⟩
        rw [HF.out]
        go_wp2_with fail
        refine (rlegal_any a hs _).mono ?_
        rintro e w0' ⟨rfl, rfl⟩
        rw [HA.out]
        go_wp2_with fail
        refine (HR _).mono ?_
        rintro e w0' ⟨rfl, rfl⟩
        go_wp2_with fail
        refine (shown_any _).mono ?_
        rintro e w1 ⟨rfl, hb1⟩
        go_wp2_with fail
        go_ret
        exact ⟨rfl, ret_tr hb0 hb1⟩
    · have HF := Lib.hid hfi
      have HV := Lib.hid hv
      have HN := Lib.hid hn
      have hq2 : (legalL a != 0) = true := by rw [bne_iff_ne]; exact ha
      have HR := fun w => rlegal_any a hs w
      generalize legalL a = q at *
      clear hfi hv hn ha
      go_enter Try.func6, Try.ntmps6
      go_wp2_with fail
      refine (fine_any _ l _ HV.out HN.out).mono ?_
      rintro e w0 ⟨rfl, hb0⟩
      rw [HF.out]
      go_wp2_with fail
      refine (HR _).mono ?_
      rintro e w0' ⟨rfl, rfl⟩
      go_wp2_with fail
      refine (shown_any _).mono ?_
      rintro e w1 ⟨rfl, hb1⟩
      go_wp2_with fail
      go_ret
      exact ⟨rfl, ret_tr hb0 hb1⟩
end Go.Proofs.Ytbabkpaepijjeaa
