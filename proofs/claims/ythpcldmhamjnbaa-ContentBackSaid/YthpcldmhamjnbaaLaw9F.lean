/-
  The walk of ContentBack.
-/
import Derived.Test.YthpcldmhamjnbaaLaw9E
import Derived.Deep.RegionHeld3
import Derived.Deep.DeepCutAuto
namespace Go.Proofs.Ythpcldmhamjnbaa
open Go.RowKit Go.Shelf
attribute [local go_sem ↓] Go.wp_at_zero Go.wp_at_succ

theorem read_file {l : List NodeL} {i : Int} (h : fileE l i = 0) (a n : Int) (ha : 0 ≤ a) (hn : 0 ≤ n) : readL l i a n = (partD (getL l i).data a n, 0) := by
  unfold readL
  rw [if_neg (by rw [h]; simp), if_neg (by omega)]
/-- What was written is read; what is elsewhere stays. -/
theorem back_facts {l : List NodeL} {room i a : Int} {s : Nm} (h : (writeL l room i a s).2 = 0) (f n : Nat) :
    readL (writeL l room i a s).1 i a s.length = (s, 0) ∧ (readL l i f n).2 = 0 ∧ (readL (writeL l room i a s).1 i f n).2 = 0 ∧ (s = [] → (readL (writeL l room i a s).1 i f n).1 = (readL l i f n).1)
      ∧ (s ≠ [] → ∃ j : Nat, a = j ∧ j ≤ 1000 ∧ (f + n ≤ j → (readL l i f n).1.length ≤ (readL (writeL l room i a s).1 i f n).1.length ∧ (readL (writeL l room i a s).1 i f n).1.take (readL l i f n).1.length = (readL l i f n).1) ∧ (j + s.length ≤ f → (readL (writeL l room i a s).1 i f n).1 = (readL l i f n).1)) := by
  obtain ⟨hf, ha, hc⟩ := write_ok h
  rcases hc with ⟨hs, hL⟩ | ⟨hs, hj, hL, _⟩
  · rw [hL]
    subst hs
    rw [read_file hf a _ ha (by omega), read_file hf f n (by omega) (by omega)]
    refine ⟨?_, rfl, rfl, fun _ => rfl, fun h => absurd rfl h⟩
    have : partD (getL l i).data a (([] : Nm).length : Int) = [] := by
      unfold partD headD
      simp
    rw [this]
  · obtain ⟨j, rfl⟩ := Int.eq_ofNat_of_zero_le ha
    obtain ⟨e1, e2, e3, e4, e5, e6⟩ := set_data hf (putD (getL l i).data s j)
    rw [hL, read_file e4 j _ (by omega) (by omega), read_file e4 f n (by omega) (by omega), read_file hf f n (by omega) (by omega), e3]
    refine ⟨?_, rfl, rfl, fun h => absurd h hs, fun _ => ⟨j, rfl, by omega, fun h2 => part_ahead _ _ _ _ _ h2, fun h2 => part_behind _ _ _ _ _ hs h2⟩⟩
    show (partD (putD (getL l i).data s j) j s.length, (0 : Int)) = (s, 0)
    rw [part_put]
set_option maxRecDepth 100000 in
set_option maxHeartbeats 4000000 in
theorem back_l (pc : PC) (l : List NodeL) (most room : Int) (i a : Int) (s : Nm) (f n : UInt8) (ao : Option Addr) (cap : Nat) (w : World) (hg : GivesN l (.slice ao l.length cap) w) :
    Calls Try.prog 5 #[diskV ao l.length cap most room, .int .i64 i, .int .i64 a, .string (bs s), .int .u8 f.toNat, .int .u8 n.toNat] w fun e w' => e = .returned (.bool true) ∧ Below w.heap.size w w' := by
  have S0 := Lib.hid (Sn.start hg)
  have HPC := Lib.hid pc
  clear hg pc
  go_enter Try.func5, Try.ntmps5
  go_upto_region 1 with (fail)
  refine code_fresh1 ?_
  intro W1 hb hA0 hs
  have S1 := Lib.hid (S0.out.new1 hb hA0)
  clear hb hA0 hs
  obtain ⟨d0, d1, d2⟩ := cells3 (S1.out.at 0 rfl)
  go_wp2_with fail
  refine (small_g l most room _ W1 (S1.out.g 0 rfl)).mono ?_
  rintro e W2 ⟨rfl, hb⟩
  clear d0 d1 d2
  have S2 := Lib.hid (S1.out.call hb)
  clear hb
  cases hq : smallQ l with
  | false =>
    clear hq
    go_wp2_with fail
    refine (HPC.out.shown W2).mono ?_
    rintro e WZ ⟨rfl, hb⟩
    go_wp2_with fail
    go_ret
    exact ⟨rfl, ret_tr S2.out.bel hb⟩
  | true =>
    have HQ := Lib.hid hq
    clear hq
    by_cases hs : 300 < s.length
    · have is : decide ((300 : Int) < (s.length : Int)) = true := decide_eq_true (by omega)
      clear hs
      go_wp2_with fail
      refine (HPC.out.shown W2).mono ?_
      rintro e WZ ⟨rfl, hb⟩
      go_wp2_with fail
      go_ret
      exact ⟨rfl, ret_tr S2.out.bel hb⟩
    · have is : decide ((300 : Int) < (s.length : Int)) = false := decide_eq_false (by omega)
      have HLs : Hid (s.length ≤ 300) := Lib.hid (by omega)
      clear hs
      go_wp2_with fail
      refine (HPC.out.shown W2).mono ?_
      rintro e W3 ⟨rfl, hb⟩
      have S3 := Lib.hid (S2.out.call hb)
      clear hb
      clear is
      have hf := f.toNat_lt
      have hn := n.toNat_lt
      generalize f.toNat = f at *
      generalize n.toNat = n at *
      have hsl := HLs.out
      have w1 : IntKind.i64.wrap ((f : Int) + (n : Int)) = (f : Int) + (n : Int) := Go.IntWalk.i64_in _ (by omega)
      have c1 : IntKind.i64.wrap (f : Int) = (f : Int) := Go.IntWalk.i64_in _ (by omega)
      have c2 : IntKind.i64.wrap (n : Int) = (n : Int) := Go.IntWalk.i64_in _ (by omega)
      have hs1 : s.length ≤ 1000 := by omega
      have hF := fun h => back_facts (l := l) (room := room) (i := i) (a := a) (s := s) h f n
      have hB := write_bad (l := l) (room := room) (i := i) (a := a) (s := s)
      have pa := fun ao cap W h => HPC.out.write l most room i a s ao cap W (small_Q HQ.out) hs1 h
      have q1 := quiet_write HQ.out room i a (s := s) (by omega)
      generalize writeL l room i a s = R at pa q1 hF hB
      obtain ⟨L1, e⟩ := R
      dsimp only at pa q1 hF hB
      have p1 := fun v W h => HPC.out.read L1 most room i a (s.length : Int) v W (small_Q q1) h
      have p2 := fun v W h => HPC.out.read l most room i f n v W (small_Q HQ.out) h
      have p3 := fun v W h => HPC.out.read L1 most room i f n v W (small_Q q1) h
      have rl2 := read_len HQ.out i f n
      have rl3 := read_len q1 i f n
      generalize readL L1 i a (s.length : Int) = A at p1 hF
      generalize readL l i f n = B at p2 hF rl2
      generalize readL L1 i f n = C at p3 hF rl3
      obtain ⟨t, e1⟩ := A
      obtain ⟨x, e2⟩ := B
      obtain ⟨y, e3⟩ := C
      dsimp only at p1 p2 p3 hF rl2 rl3
      have HA := Lib.hid pa
      have HQ1 := Lib.hid q1
      have HP1 := Lib.hid p1
      have HP2 := Lib.hid p2
      have HP3 := Lib.hid p3
      have HF := Lib.hid hF
      have HBD := Lib.hid hB
      have HRL := Lib.hid (And.intro rl2 rl3)
      clear pa q1 p1 p2 p3 hF hB rl2 rl3
      obtain ⟨d0, d1, d2⟩ := cells3 (S3.out.at 0 rfl)
      go_wp2_with fail
      refine (HA.out _ _ W3 (S3.out.g 0 rfl)).mono ?_
      rintro e W4 ⟨aoa, cpa, rfl, hg1, hb⟩
      clear d0 d1 d2
      have S4 := Lib.hid ((S3.out.call hb).addG hg1.gives)
      clear hb hg1
      go_upto_region 4 with (fail)
      refine code_fresh1 ?_
      intro W5 hb hA0 hs
      have S5 := Lib.hid (S4.out.new1 hb hA0)
      clear hb hA0 hs
      by_cases h0 : e = 0
      · subst h0
        obtain ⟨ht, rfl, rfl, hse, hsn⟩ := HF.out rfl
        injection ht with t1 t2
        subst t1 t2
        go_upto_region 6 with (fail)
        obtain ⟨a0, a1, a2⟩ := cells3 (S5.out.at 1 rfl)
        go_wp2_with fail
        refine (HP1.out _ W5 (S5.out.g 1 rfl)).mono ?_
        rintro e W6 ⟨rfl, hb⟩
        clear a0 a1 a2
        have S6 := Lib.hid (S5.out.call hb)
        clear hb
        obtain ⟨d0, d1, d2⟩ := cells3 (S6.out.at 0 rfl)
        go_wp2_with fail
        refine (HP2.out _ W6 (S6.out.g 0 rfl)).mono ?_
        rintro e W7 ⟨rfl, hb⟩
        clear d0 d1 d2
        have S7 := Lib.hid (S6.out.call hb)
        clear hb
        obtain ⟨a0, a1, a2⟩ := cells3 (S7.out.at 1 rfl)
        go_wp2_with fail
        refine (HP3.out _ W7 (S7.out.g 1 rfl)).mono ?_
        rintro e W8 ⟨rfl, hb⟩
        clear a0 a1 a2
        have S8 := Lib.hid (S7.out.call hb)
        clear hb
        have HSE := Lib.hid hse
        have HSN := Lib.hid hsn
        clear hse hsn
        by_cases hs : t = []
        · have hyx := HSE.out hs
          subst hs hyx
          have hx : (bs y).extract 0 y.length = bs y := by rw [bs_take, List.take_length]
          have l1 : decide (y.length ≤ y.length) = true := decide_eq_true (Nat.le_refl _)
          have l2 : decide ((y.length : Int) ≤ (y.length : Int)) = true := decide_eq_true (Int.le_refl _)
          have z0 : (0 : Int) ≤ (y.length : Int) := by omega
          have z1 : (y.length : Int) ≤ (y.length : Int) := Int.le_refl _
          have zt : ((y.length : Int)).toNat = y.length := Int.toNat_natCast _
          go_wp2_with fail
          go_ret
          exact ⟨rfl, S8.out.bel⟩
        · have s1 : (t == []) = false := by simpa using hs
          have s2 : t.isEmpty = false := by simpa using hs
          have s3 : decide (t = []) = false := decide_eq_false hs
          obtain ⟨j, rfl, hj, k1, k2⟩ := HSN.out hs
          clear hs
          have w2 : IntKind.i64.wrap ((j : Int) + (t.length : Int)) = (j : Int) + (t.length : Int) := Go.IntWalk.i64_in _ (by omega)
          by_cases hle : f + n ≤ j
          · have i1 : decide ((f : Int) + (n : Int) ≤ (j : Int)) = true := decide_eq_true (by omega)
            have i2 : decide (f + n ≤ j) = true := decide_eq_true hle
            obtain ⟨m1, m2⟩ := k1 hle
            clear k1 k2 hle
            have hx : (bs y).extract 0 x.length = bs x := by rw [bs_take, m2]
            have l1 : decide (x.length ≤ y.length) = true := decide_eq_true m1
            have l2 : decide ((x.length : Int) ≤ (y.length : Int)) = true := decide_eq_true (by omega)
            have z0 : (0 : Int) ≤ (x.length : Int) := by omega
            have z1 : (x.length : Int) ≤ (y.length : Int) := by omega
            have zt : ((x.length : Int)).toNat = x.length := Int.toNat_natCast _
            clear m2
            go_wp2_with fail
            go_ret
            exact ⟨rfl, S8.out.bel⟩
          · have i1 : decide ((f : Int) + (n : Int) ≤ (j : Int)) = false := decide_eq_false (by omega)
            have i2 : decide (f + n ≤ j) = false := decide_eq_false hle
            clear k1 hle
            by_cases hlt : f < j + t.length
            · have i3 : decide ((f : Int) < (j : Int) + (t.length : Int)) = true := decide_eq_true (by omega)
              have i4 : decide (f < j + t.length) = true := decide_eq_true hlt
              clear k2 hlt
              go_wp2_with fail
              go_ret
              exact ⟨rfl, S8.out.bel⟩
            · have i3 : decide ((f : Int) < (j : Int) + (t.length : Int)) = false := decide_eq_false (by omega)
              have i4 : decide (f < j + t.length) = false := decide_eq_false hlt
              have hyx := k2 (by omega)
              subst hyx
              clear k2 hlt
              go_wp2_with fail
              go_ret
              exact ⟨rfl, S8.out.bel⟩
      · have hL := (HBD.out h0).symm
        subst hL
        have qh01 : (e == 0) = false := by simpa using h0
        have qh02 : (e != 0) = true := by simpa using h0
        have qh03 : decide (e = 0) = false := by simpa using h0
        clear h0
        go_upto_region 5 with (fail)
        have h_a := (S5.out.at 1 rfl)
        have h_d := (S5.out.at 0 rfl)
        refine wp_region_held_drew (S := fun W => W.heap[W4.heap.size]? = some (.cells #[.slice aoa l.length cpa, .int .i64 most, .int .i64 room] 24 (0, 0)) ∧ W.heap[w.heap.size]? = some (.cells #[.slice ao l.length cap, .int .i64 most, .int .i64 room] 24 (0, 0)) ∧ True) (by kernel_rfl) ⟨(S5.out.at 1 rfl), (S5.out.at 0 rfl), trivial⟩ (fun hHeld => ?_)
        clear h_a h_d
        have S6 := Lib.hid (S5.out.call (Below.refl W5.heap.size W5).drew)
        generalize W5.drew = W6 at *
        refine wpAnyH_take (i := 0) rfl (by kernel_rfl) (by kernel_rfl) (by kernel_rfl) (fun _ _ _ h => h) (yieldsIf_load_row (by rfl) 24 _ rfl _ rfl 24 _ (0, 0) _ (fun _ h => h.1) Try.underlying24 rfl (by kernel_rfl)) hHeld ?_
        (try simp only [List.getElem_toArray]); (try simp only [List.getElem_cons_succ]); (try simp only [List.getElem_cons_zero]); (try simp only [Act.put]); (try simp only [List.setIfInBounds_toArray]); (try simp only [List.set_cons_succ]); (try simp only [List.set_cons_zero])
        refine wpAnyH_take (i := 2) rfl (by kernel_rfl) (by kernel_rfl) (by kernel_rfl) (fun _ _ _ h => h) (yieldsIf_load_row (by rfl) 24 _ rfl _ rfl 24 _ (0, 0) _ (fun _ h => h.2.1) Try.underlying24 rfl (by kernel_rfl)) hHeld ?_
        (try simp only [List.getElem_toArray]); (try simp only [List.getElem_cons_succ]); (try simp only [List.getElem_cons_zero]); (try simp only [Act.put]); (try simp only [List.setIfInBounds_toArray]); (try simp only [List.set_cons_succ]); (try simp only [List.set_cons_zero])
        refine wpAnyH_ready (rs := [1]) (by kernel_rfl) (by simp) ?_
        refine AllReadyH.cons rfl (fun K hK => ?_) AllReadyH.nil
        go_simp
        refine (its_f l most room (quiet_len HQ.out) (quiet_names HQ.out) _ W6 (S6.out.g 1 rfl)).mono ?_
        rintro e W7 ⟨aoz1, cpz1, rfl, hgg, hb⟩
        have S7 := Lib.hid ((S6.out.call hb).addG hgg)
        clear hb hHeld hgg
        go_wp2_with fail
        refine hK.out _ _ ⟨(S7.out.at 1 rfl), (S7.out.at 0 rfl), trivial⟩ (fun hHeld => ?_)
        clear hK K
        (try simp only [List.getElem_toArray]); (try simp only [List.getElem_cons_succ]); (try simp only [List.getElem_cons_zero]); (try simp only [Act.put]); (try simp only [List.setIfInBounds_toArray]); (try simp only [List.set_cons_succ]); (try simp only [List.set_cons_zero])
        refine wpAnyH_ready (rs := [3]) (by kernel_rfl) (by simp) ?_
        refine AllReadyH.cons rfl (fun K hK => ?_) AllReadyH.nil
        go_simp
        refine (its_f l most room (quiet_len HQ.out) (quiet_names HQ.out) _ W7 (S7.out.g 0 rfl)).mono ?_
        rintro e W8 ⟨aoz2, cpz2, rfl, hgg, hb⟩
        have S8 := Lib.hid ((S7.out.call hb).addG hgg)
        clear hb hHeld hgg
        go_wp2_with fail
        refine hK.out _ _ ⟨(S8.out.at 1 rfl), (S8.out.at 0 rfl), trivial⟩ (fun hHeld => ?_)
        clear hK K
        (try simp only [List.getElem_toArray]); (try simp only [List.getElem_cons_succ]); (try simp only [List.getElem_cons_zero]); (try simp only [Act.put]); (try simp only [List.setIfInBounds_toArray]); (try simp only [List.set_cons_succ]); (try simp only [List.set_cons_zero])
        refine wpAnyH_ready (rs := [4]) (by kernel_rfl) (by simp) ?_
        refine AllReadyH.cons rfl (fun K hK => ?_) AllReadyH.nil
        go_simp
        refine (same_g l most room (quiet_len HQ.out) (quiet_names HQ.out) _ _ W8 (S8.out.g 2 rfl) (S8.out.g 3 rfl)).mono ?_
        rintro e W9 ⟨rfl, hb⟩
        have S9 := Lib.hid (S8.out.call hb)
        clear hb hHeld
        go_wp2_with fail
        refine hK.out _ _ ⟨(S9.out.at 1 rfl), (S9.out.at 0 rfl), trivial⟩ (fun hHeld => ?_)
        clear hK K
        (try simp only [List.getElem_toArray]); (try simp only [List.getElem_cons_succ]); (try simp only [List.getElem_cons_zero]); (try simp only [Act.put]); (try simp only [List.setIfInBounds_toArray]); (try simp only [List.set_cons_succ]); (try simp only [List.set_cons_zero])
        refine wpAnyH_take (i := 5) (v := ?v1) rfl (by kernel_rfl) (by kernel_rfl) (by kernel_rfl) (fun _ _ _ h => h) (Or.inl ⟨by rfl, ?hy1⟩) hHeld ?rest1
        case hy1 => (intro w hSw; (try dsimp only at hSw); (try go_split_ands); go_simp; first | done | with_reducible rfl)
        (try simp only [List.getElem_toArray]); (try simp only [List.getElem_cons_succ]); (try simp only [List.getElem_cons_zero]); (try simp only [Act.put]); (try simp only [List.setIfInBounds_toArray]); (try simp only [List.set_cons_succ]); (try simp only [List.set_cons_zero])
        refine wpAnyH_done (by kernel_rfl) ?_ _
        go_wp2_with fail
        go_ret
        exact ⟨rfl, S9.out.bel⟩
end Go.Proofs.Ythpcldmhamjnbaa
