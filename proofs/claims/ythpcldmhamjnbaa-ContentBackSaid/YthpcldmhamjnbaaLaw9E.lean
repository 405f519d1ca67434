/-
  The walk of ContentParts.
-/
import Derived.Test.YthpcldmhamjnbaaLaw9B
import Derived.Deep.RegionHeld3
import Derived.Deep.DeepCutAuto
namespace Go.Proofs.Ythpcldmhamjnbaa
open Go.RowKit Go.Shelf
attribute [local go_sem ↓] Go.wp_at_zero Go.wp_at_succ

theorem read_len {l : List NodeL} (h : smallQ l = true) (i a n : Int) : (readL l i a n).1.length ≤ 1500 := by
  have hd := data_quiet h i
  unfold readL
  split
  · exact Nat.zero_le _
  · split
    · exact Nat.zero_le _
    · show (partD (getL l i).data a n).length ≤ 1500
      unfold partD headD restD
      split
      · split
        · simp
        · simp
      · split
        · rw [List.length_take, List.length_drop]; omega
        · rw [List.length_drop]; omega
/-- What is read in two parts. -/
theorem read_two (l : List NodeL) (i : Int) (j k n : Nat) : (readL l i j ((k : Int) + (n : Int))).2 = (readL l i j k).2 ∧ (readL l i j k).2 = (readL l i ((j : Int) + (k : Int)) n).2 ∧ (readL l i j ((k : Int) + (n : Int))).1 = (readL l i j k).1 ++ (readL l i ((j : Int) + (k : Int)) n).1 := by
  unfold readL
  by_cases h : fileE l i ≠ 0
  · simp only [if_pos h]
    exact ⟨trivial, trivial, rfl⟩
  · simp only [if_neg h]
    rw [if_neg (by omega), if_neg (by omega), if_neg (by omega)]
    refine ⟨rfl, rfl, ?_⟩
    have := part_two (getL l i).data j k n
    exact this
/-- Two writes, one behind the other, if there is room for both at once. -/
theorem write_two (l : List NodeL) (room i : Int) (j : Nat) (s t : Nm) (hj : j + s.length ≤ 1000) (h : (writeL l room i j (s ++ t)).2 = 0) :
    writeL (writeL l room i j s).1 room i ((j : Int) + (s.length : Int)) t = ((writeL l room i j (s ++ t)).1, 0) := by
  have hja : (j : Int) + (s.length : Int) = ((j + s.length : Nat) : Int) := by omega
  obtain ⟨hf, _, hc⟩ := write_ok h
  have hf' : fileE l i = 0 := hf
  have hw : ∀ (l : List NodeL) (a : Nat) (s : Nm), fileE l i = 0 → s ≠ [] → a ≤ 1000 → ¬ ((getL l i).data.length < (putD (getL l i).data s a).length ∧ room < (bytesL l : Int) + (putD (getL l i).data s a).length - (getL l i).data.length) → writeL l room i a s = (setL l i (dataN (getL l i) (putD (getL l i).data s a)), 0) := by
    intro l a s h1 h2 h3 h4
    unfold writeL keptL
    rw [if_neg (by rw [h1]; simp), if_neg (by omega), if_neg h2, if_neg (by omega), if_neg h4]
  by_cases hs : s = []
  · subst hs
    have h1 : (writeL l room i j []).1 = l := by
      unfold writeL
      rw [if_neg (by rw [hf']; simp), if_neg (by omega), if_pos rfl]
    rw [h1, List.nil_append] at *
    rw [show (j : Int) + (([] : Nm).length : Int) = (j : Int) by simp]
    exact Prod.ext rfl h
  · rcases hc with ⟨hc, _⟩ | ⟨hst, _, hL, hr⟩
    · exact absurd (List.append_eq_nil_iff.1 hc).1 hs
    · have l1 := putD_len (getL l i).data s j
      have l2 := putD_len (getL l i).data (s ++ t) j
      rw [List.length_append] at l2
      have hw1 := hw l j s hf' hs (by omega) (by rw [l1]; rw [l2] at hr; omega)
      rw [hw1, hL]
      obtain ⟨e1, e2, e3, e4, e5, e6⟩ := set_data hf' (putD (getL l i).data s j)
      have e7 := set_data e4 (putD (getL l i).data (s ++ t) j)
      have hset : ∀ d, setL (setL l i (dataN (getL l i) (putD (getL l i).data s j))) i (dataN (dataN (getL l i) (putD (getL l i).data s j)) d) = setL l i (dataN (getL l i) d) := fun d => by
        obtain ⟨hg, _⟩ := file_got hf'
        obtain ⟨k, rfl, hlt⟩ := got_in hg
        have hin : inL l (k : Int) = true := by
          unfold gotB at hg
          rw [Bool.and_eq_true] at hg
          exact hg.1
        have hin2 : ∀ n, inL (l.set k n) (k : Int) = true := fun n => by
          unfold inL at hin ⊢
          rw [List.length_set]
          exact hin
        unfold setL
        rw [if_pos hin, if_pos hin, Int.toNat_natCast, if_pos (hin2 _), List.set_set]
        rfl
      by_cases ht : t = []
      · subst ht
        rw [List.append_nil]
        unfold writeL
        rw [if_neg (by rw [e4]; simp), if_neg (by omega), if_pos rfl]
      · have hput : putD (putD (getL l i).data s j) t ((j + s.length : Nat) : Int) = putD (getL l i).data (s ++ t) j := put_two _ _ _ _
        rw [hja]
        have hd : (getL (setL l i (dataN (getL l i) (putD (getL l i).data s j))) i).data = putD (getL l i).data s j := by rw [e3]; rfl
        rw [hw _ (j + s.length) t e4 ht hj (by rw [hd, hput, l1, l2]; rw [l2] at hr; rw [l1] at e5; omega), hd, hput, e3, hset]
set_option maxRecDepth 100000 in
set_option maxHeartbeats 4000000 in
theorem parts_l (pc : PC) (l : List NodeL) (most room : Int) (i : Int) (j k n : UInt8) (s t : Nm) (ao : Option Addr) (cap : Nat) (w : World) (hg : GivesN l (.slice ao l.length cap) w) :
    Calls Try.prog 7 #[diskV ao l.length cap most room, .int .i64 i, .int .u8 j.toNat, .int .u8 k.toNat, .int .u8 n.toNat, .string (bs s), .string (bs t)] w fun e w' => e = .returned (.bool true) ∧ Below w.heap.size w w' := by
  have S0 := Lib.hid (Sn.start hg)
  have HPC := Lib.hid pc
  clear hg pc
  go_enter Try.func7, Try.ntmps7
  go_upto_region 1 with (fail)
  refine code_fresh1 ?_
  intro W1 hb hA0 hs
  have S1 := Lib.hid (S0.out.new1 hb hA0)
  clear hb hA0 hs
  obtain ⟨d0, d1, d2⟩ := cells3 (S1.out.at 0 rfl)
  go_wp2_with fail
  refine (small_g l most room _ W1 (S1.out.g 0 rfl)).mono ?_
  rintro e W2 ⟨rfl, hb⟩
  clear d0 d1 d2
  have S2 := Lib.hid (S1.out.call hb)
  clear hb
  cases hq : smallQ l with
  | false =>
    clear hq
    go_wp2_with fail
    refine (HPC.out.shown W2).mono ?_
    rintro e WZ ⟨rfl, hb⟩
    go_wp2_with fail
    go_ret
    exact ⟨rfl, ret_tr S2.out.bel hb⟩
  | true =>
    have HQ := Lib.hid hq
    clear hq
    by_cases hs : 200 < s.length
    · have is : decide ((200 : Int) < (s.length : Int)) = true := decide_eq_true (by omega)
      clear hs
      go_wp2_with fail
      refine (HPC.out.shown W2).mono ?_
      rintro e WZ ⟨rfl, hb⟩
      go_wp2_with fail
      go_ret
      exact ⟨rfl, ret_tr S2.out.bel hb⟩
    · have is : decide ((200 : Int) < (s.length : Int)) = false := decide_eq_false (by omega)
      have HLs : Hid (s.length ≤ 200) := Lib.hid (by omega)
      clear hs
      by_cases ht : 200 < t.length
      · have it : decide ((200 : Int) < (t.length : Int)) = true := decide_eq_true (by omega)
        clear ht
        go_wp2_with fail
        refine (HPC.out.shown W2).mono ?_
        rintro e WZ ⟨rfl, hb⟩
        go_wp2_with fail
        go_ret
        exact ⟨rfl, ret_tr S2.out.bel hb⟩
      · have it : decide ((200 : Int) < (t.length : Int)) = false := decide_eq_false (by omega)
        have HLt : Hid (t.length ≤ 200) := Lib.hid (by omega)
        clear ht
        go_wp2_with fail
        refine (HPC.out.shown W2).mono ?_
        rintro e W3 ⟨rfl, hb⟩
        have S3 := Lib.hid (S2.out.call hb)
        clear hb
        clear is
        clear it
        have hj := j.toNat_lt
        have hk := k.toNat_lt
        have hn := n.toNat_lt
        generalize j.toNat = j at *
        generalize k.toNat = k at *
        generalize n.toNat = n at *
        have hsl := HLs.out
        have htl := HLt.out
        have w1 : IntKind.i64.wrap ((k : Int) + (n : Int)) = (k : Int) + (n : Int) := Go.IntWalk.i64_in _ (by omega)
        have w2 : IntKind.i64.wrap ((j : Int) + (k : Int)) = (j : Int) + (k : Int) := Go.IntWalk.i64_in _ (by omega)
        have w3 : IntKind.i64.wrap ((j : Int) + (s.length : Int)) = (j : Int) + (s.length : Int) := Go.IntWalk.i64_in _ (by omega)
        have c1 : IntKind.i64.wrap (j : Int) = (j : Int) := Go.IntWalk.i64_in _ (by omega)
        have c2 : IntKind.i64.wrap (k : Int) = (k : Int) := Go.IntWalk.i64_in _ (by omega)
        have c3 : IntKind.i64.wrap (n : Int) = (n : Int) := Go.IntWalk.i64_in _ (by omega)
        obtain ⟨r1, r2, r3⟩ := read_two l i j k n
        have hp1 := fun v W h => HPC.out.read l most room i j ((k : Int) + (n : Int)) v W (small_Q HQ.out) h
        have hp2 := fun v W h => HPC.out.read l most room i j k v W (small_Q HQ.out) h
        have hp3 := fun v W h => HPC.out.read l most room i ((j : Int) + (k : Int)) n v W (small_Q HQ.out) h
        have rl : ∀ a b : Int, (readL l i a b).1.length ≤ 1500 := read_len HQ.out i
        have rl2 := rl j k
        have rl3 := rl ((j : Int) + (k : Int)) n
        clear rl
        generalize readL l i j ((k : Int) + (n : Int)) = A at hp1 r1 r2 r3
        generalize readL l i j k = B at hp2 r1 r2 r3 rl2
        generalize readL l i ((j : Int) + (k : Int)) n = C at hp3 r1 r2 r3 rl3
        obtain ⟨x, e⟩ := A
        obtain ⟨y, f⟩ := B
        obtain ⟨z, g⟩ := C
        dsimp only at hp1 hp2 hp3 r1 r2 r3 rl2 rl3
        subst r1 r2
        have hcat : bs y ++ bs z = bs x := by rw [bs_app, r3]
        have hov : ¬ 9223372036854775807 < y.length + z.length := by omega
        have HP1 := Lib.hid hp1
        have HP2 := Lib.hid hp2
        have HP3 := Lib.hid hp3
        clear hp1 hp2 hp3 r3 rl2 rl3
        have HT := Lib.hid (write_two l room i j s t (by omega))
        have hst : (s ++ t).length ≤ 400 := by rw [List.length_append]; omega
        have hov2 : ¬ 9223372036854775807 < s.length + t.length := by omega
        obtain ⟨u, hu⟩ : ∃ u, u = s ++ t := ⟨_, rfl⟩
        rw [← hu] at hst HT
        have hcat2 : bs s ++ bs t = bs u := by rw [bs_app, hu]
        clear hu
        have q1 := quiet_write HQ.out room i j hst
        have q2 := quiet_write HQ.out room i j (s := s) (by omega)
        have hs1 : s.length ≤ 1000 := by omega
        have ht1 : t.length ≤ 1000 := by omega
        have hu1 : u.length ≤ 1000 := by omega
        have pa := fun ao cap W h => HPC.out.write l most room i j u ao cap W (small_Q HQ.out) hu1 h
        have pb := fun ao cap W h => HPC.out.write l most room i j s ao cap W (small_Q HQ.out) hs1 h
        generalize writeL l room i j u = A at pa q1 HT
        generalize writeL l room i j s = B at pb q2 HT
        obtain ⟨L1, h1⟩ := A
        obtain ⟨L2, h2⟩ := B
        dsimp only at pa pb q1 q2 HT
        have pc2 := fun ao cap W h => HPC.out.write L2 most room i ((j : Int) + (s.length : Int)) t ao cap W (small_Q q2) ht1 h
        have q3 := quiet_write q2 room i ((j : Int) + (s.length : Int)) (s := t) (by omega)
        generalize writeL L2 room i ((j : Int) + (s.length : Int)) t = C at pc2 q3 HT
        obtain ⟨L3, h3⟩ := C
        dsimp only at pc2 q3 HT
        have HA := Lib.hid pa
        have HB := Lib.hid pb
        have HC := Lib.hid pc2
        have HQ1 := Lib.hid q1
        have HQ2 := Lib.hid q2
        have HQ3 := Lib.hid q3
        clear pa pb pc2 q1 q2 q3
        obtain ⟨d0, d1, d2⟩ := cells3 (S3.out.at 0 rfl)
        go_wp2_with fail
        refine (HP1.out _ W3 (S3.out.g 0 rfl)).mono ?_
        rintro e W4 ⟨rfl, hb⟩
        clear d0 d1 d2
        have S4 := Lib.hid (S3.out.call hb)
        clear hb
        obtain ⟨d0, d1, d2⟩ := cells3 (S4.out.at 0 rfl)
        go_wp2_with fail
        refine (HP2.out _ W4 (S4.out.g 0 rfl)).mono ?_
        rintro e W5 ⟨rfl, hb⟩
        clear d0 d1 d2
        have S5 := Lib.hid (S4.out.call hb)
        clear hb
        obtain ⟨d0, d1, d2⟩ := cells3 (S5.out.at 0 rfl)
        go_wp2_with fail
        refine (HP3.out _ W5 (S5.out.g 0 rfl)).mono ?_
        rintro e W6 ⟨rfl, hb⟩
        clear d0 d1 d2
        have S6 := Lib.hid (S5.out.call hb)
        clear hb
        go_upto_region 9 with (fail)
        obtain ⟨d0, d1, d2⟩ := cells3 (S6.out.at 0 rfl)
        go_wp2_with fail
        refine (HA.out _ _ W6 (S6.out.g 0 rfl)).mono ?_
        rintro e W7 ⟨aoa, cpa, rfl, hg1, hb⟩
        clear d0 d1 d2
        have S7 := Lib.hid ((S6.out.call hb).addG hg1.gives)
        clear hb hg1
        go_upto_region 10 with (fail)
        refine code_fresh1 ?_
        intro W8 hb hA0 hs
        have S8 := Lib.hid (S7.out.new1 hb hA0)
        clear hb hA0 hs
        obtain ⟨d0, d1, d2⟩ := cells3 (S8.out.at 0 rfl)
        go_wp2_with fail
        refine (HB.out _ _ W8 (S8.out.g 0 rfl)).mono ?_
        rintro e W9 ⟨aob, cpb, rfl, hg1, hb⟩
        clear d0 d1 d2
        have S9 := Lib.hid ((S8.out.call hb).addG hg1.gives)
        clear hb hg1
        go_upto_region 11 with (fail)
        refine code_fresh1 ?_
        intro W10 hb hA0 hs
        have S10 := Lib.hid (S9.out.new1 hb hA0)
        clear hb hA0 hs
        obtain ⟨b0, b1, b2⟩ := cells3 (S10.out.at 2 rfl)
        go_wp2_with fail
        refine (HC.out _ _ W10 (S10.out.g 2 rfl)).mono ?_
        rintro e W11 ⟨aoc, cpc, rfl, hg1, hb⟩
        clear b0 b1 b2
        have S11 := Lib.hid ((S10.out.call hb).addG hg1.gives)
        clear hb hg1
        go_upto_region 12 with (fail)
        refine code_fresh1 ?_
        intro W12 hb hA0 hs
        have S12 := Lib.hid (S11.out.new1 hb hA0)
        clear hb hA0 hs
        by_cases h0 : h1 = 0
        · subst h0
          have hT := HT.out rfl
          injection hT with t1 t2
          subst t1 t2
          go_upto_region 14 with (fail)
          have h_a := (S12.out.at 1 rfl)
          have h_c := (S12.out.at 3 rfl)
          refine wp_region_held_drew (S := fun W => W.heap[W7.heap.size]? = some (.cells #[.slice aoa L3.length cpa, .int .i64 most, .int .i64 room] 24 (0, 0)) ∧ W.heap[W11.heap.size]? = some (.cells #[.slice aoc L3.length cpc, .int .i64 most, .int .i64 room] 24 (0, 0)) ∧ True) (by kernel_rfl) ⟨(S12.out.at 1 rfl), (S12.out.at 3 rfl), trivial⟩ (fun hHeld => ?_)
          clear h_a h_c
          have S13 := Lib.hid (S12.out.call (Below.refl W12.heap.size W12).drew)
          generalize W12.drew = W13 at *
          refine wpAnyH_take (i := 0) (v := ?v94) rfl (by kernel_rfl) (by kernel_rfl) (by kernel_rfl) (fun _ _ _ h => h) (Or.inl ⟨by rfl, ?hy94⟩) hHeld ?rest94
          case hy94 => (intro w hSw; (try dsimp only at hSw); (try go_split_ands); go_simp; first | done | with_reducible rfl)
          (try simp only [List.getElem_toArray]); (try simp only [List.getElem_cons_succ]); (try simp only [List.getElem_cons_zero]); (try simp only [Act.put]); (try simp only [List.setIfInBounds_toArray]); (try simp only [List.set_cons_succ]); (try simp only [List.set_cons_zero])
          refine wpAnyH_take (i := 1) (v := ?v95) rfl (by kernel_rfl) (by kernel_rfl) (by kernel_rfl) (fun _ _ _ h => h) (Or.inl ⟨by rfl, ?hy95⟩) hHeld ?rest95
          case hy95 => (intro w hSw; (try dsimp only at hSw); (try go_split_ands); go_simp; first | done | with_reducible rfl)
          (try simp only [List.getElem_toArray]); (try simp only [List.getElem_cons_succ]); (try simp only [List.getElem_cons_zero]); (try simp only [Act.put]); (try simp only [List.setIfInBounds_toArray]); (try simp only [List.set_cons_succ]); (try simp only [List.set_cons_zero])
          refine wpAnyH_take (i := 2) (v := ?v96) rfl (by kernel_rfl) (by kernel_rfl) (by kernel_rfl) (fun _ _ _ h => h) (Or.inl ⟨by rfl, ?hy96⟩) hHeld ?rest96
          case hy96 => (intro w hSw; (try dsimp only at hSw); (try go_split_ands); go_simp; first | done | with_reducible rfl)
          (try simp only [List.getElem_toArray]); (try simp only [List.getElem_cons_succ]); (try simp only [List.getElem_cons_zero]); (try simp only [Act.put]); (try simp only [List.setIfInBounds_toArray]); (try simp only [List.set_cons_succ]); (try simp only [List.set_cons_zero])
          refine wpAnyH_take (i := 3) rfl (by kernel_rfl) (by kernel_rfl) (by kernel_rfl) (fun _ _ _ h => h) (yieldsIf_load_row (by rfl) 24 _ rfl _ rfl 24 _ (0, 0) _ (fun _ h => h.1) Try.underlying24 rfl (by kernel_rfl)) hHeld ?_
          (try simp only [List.getElem_toArray]); (try simp only [List.getElem_cons_succ]); (try simp only [List.getElem_cons_zero]); (try simp only [Act.put]); (try simp only [List.setIfInBounds_toArray]); (try simp only [List.set_cons_succ]); (try simp only [List.set_cons_zero])
          refine wpAnyH_take (i := 5) rfl (by kernel_rfl) (by kernel_rfl) (by kernel_rfl) (fun _ _ _ h => h) (yieldsIf_load_row (by rfl) 24 _ rfl _ rfl 24 _ (0, 0) _ (fun _ h => h.2.1) Try.underlying24 rfl (by kernel_rfl)) hHeld ?_
          (try simp only [List.getElem_toArray]); (try simp only [List.getElem_cons_succ]); (try simp only [List.getElem_cons_zero]); (try simp only [Act.put]); (try simp only [List.setIfInBounds_toArray]); (try simp only [List.set_cons_succ]); (try simp only [List.set_cons_zero])
          refine wpAnyH_ready (rs := [4]) (by kernel_rfl) (by simp) ?_
          refine AllReadyH.cons rfl (fun K hK => ?_) AllReadyH.nil
          go_simp
          refine (its_f L3 most room (quiet_len HQ3.out) (quiet_names HQ3.out) _ W13 (S13.out.g 1 rfl)).mono ?_
          rintro e W14 ⟨aoz1, cpz1, rfl, hgg, hb⟩
          have S14 := Lib.hid ((S13.out.call hb).addG hgg)
          clear hb hHeld hgg
          go_wp2_with fail
          refine hK.out _ _ ⟨(S14.out.at 1 rfl), (S14.out.at 3 rfl), trivial⟩ (fun hHeld => ?_)
          clear hK K
          (try simp only [List.getElem_toArray]); (try simp only [List.getElem_cons_succ]); (try simp only [List.getElem_cons_zero]); (try simp only [Act.put]); (try simp only [List.setIfInBounds_toArray]); (try simp only [List.set_cons_succ]); (try simp only [List.set_cons_zero])
          refine wpAnyH_ready (rs := [6]) (by kernel_rfl) (by simp) ?_
          refine AllReadyH.cons rfl (fun K hK => ?_) AllReadyH.nil
          go_simp
          refine (its_f L3 most room (quiet_len HQ3.out) (quiet_names HQ3.out) _ W14 (S14.out.g 3 rfl)).mono ?_
          rintro e W15 ⟨aoz2, cpz2, rfl, hgg, hb⟩
          have S15 := Lib.hid ((S14.out.call hb).addG hgg)
          clear hb hHeld hgg
          go_wp2_with fail
          refine hK.out _ _ ⟨(S15.out.at 1 rfl), (S15.out.at 3 rfl), trivial⟩ (fun hHeld => ?_)
          clear hK K
          (try simp only [List.getElem_toArray]); (try simp only [List.getElem_cons_succ]); (try simp only [List.getElem_cons_zero]); (try simp only [Act.put]); (try simp only [List.setIfInBounds_toArray]); (try simp only [List.set_cons_succ]); (try simp only [List.set_cons_zero])
          refine wpAnyH_ready (rs := [7]) (by kernel_rfl) (by simp) ?_
          refine AllReadyH.cons rfl (fun K hK => ?_) AllReadyH.nil
          go_simp
          refine (same_g L3 most room (quiet_len HQ3.out) (quiet_names HQ3.out) _ _ W15 (S15.out.g 4 rfl) (S15.out.g 5 rfl)).mono ?_
          rintro e W16 ⟨rfl, hb⟩
          have S16 := Lib.hid (S15.out.call hb)
          clear hb hHeld
          go_wp2_with fail
          refine hK.out _ _ ⟨(S16.out.at 1 rfl), (S16.out.at 3 rfl), trivial⟩ (fun hHeld => ?_)
          clear hK K
          (try simp only [List.getElem_toArray]); (try simp only [List.getElem_cons_succ]); (try simp only [List.getElem_cons_zero]); (try simp only [Act.put]); (try simp only [List.setIfInBounds_toArray]); (try simp only [List.set_cons_succ]); (try simp only [List.set_cons_zero])
          refine wpAnyH_take (i := 8) (v := ?v97) rfl (by kernel_rfl) (by kernel_rfl) (by kernel_rfl) (fun _ _ _ h => h) (Or.inl ⟨by rfl, ?hy97⟩) hHeld ?rest97
          case hy97 => (intro w hSw; (try dsimp only at hSw); (try go_split_ands); go_simp; first | done | with_reducible rfl)
          (try simp only [List.getElem_toArray]); (try simp only [List.getElem_cons_succ]); (try simp only [List.getElem_cons_zero]); (try simp only [Act.put]); (try simp only [List.setIfInBounds_toArray]); (try simp only [List.set_cons_succ]); (try simp only [List.set_cons_zero])
          refine wpAnyH_take (i := 9) (v := ?v98) rfl (by kernel_rfl) (by kernel_rfl) (by kernel_rfl) (fun _ _ _ h => h) (Or.inl ⟨by rfl, ?hy98⟩) hHeld ?rest98
          case hy98 => (intro w hSw; (try dsimp only at hSw); (try go_split_ands); go_simp; first | done | with_reducible rfl)
          (try simp only [List.getElem_toArray]); (try simp only [List.getElem_cons_succ]); (try simp only [List.getElem_cons_zero]); (try simp only [Act.put]); (try simp only [List.setIfInBounds_toArray]); (try simp only [List.set_cons_succ]); (try simp only [List.set_cons_zero])
          refine wpAnyH_done (by kernel_rfl) ?_ _
          go_wp2_with fail
          go_ret
          exact ⟨rfl, S16.out.bel⟩
        · have qh01 : (h1 == 0) = false := by simpa using h0
          have qh02 : (h1 != 0) = true := by simpa using h0
          have qh03 : decide (h1 = 0) = false := by simpa using h0
          clear h0
          go_wp2_with fail
          go_ret
          exact ⟨rfl, S12.out.bel⟩
end Go.Proofs.Ythpcldmhamjnbaa
