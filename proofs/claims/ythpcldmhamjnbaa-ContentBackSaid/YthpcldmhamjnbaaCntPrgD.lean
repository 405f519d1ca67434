/-
  The program's edit, of either closure.
-/
import Derived.Test.YthpcldmhamjnbaaCntPrgC
import Derived.Test.YthpcldmhamjnbaaCntRefB
namespace Go.Proofs.Ythpcldmhamjnbaa
open Go.RowKit Go.Shelf
attribute [local go_sem ↓] Go.wp_at_zero Go.wp_at_succ

def editL (l : List NodeL) (room i num : Int) (M : Option Nm) : CntL := if fileE l i ≠ 0 then (l, fileE l i) else if num < 0 then (l, 1) else match M with | none => (l, 10) | some b => keptL l room i b
theorem pbytes_c (l : List NodeL) (a b : Int) (hs : Small l) (v : Value) (W : World) (hg : GivesN l v W) :
    Calls Try.prog 36 #[.agg #[v, .int .i64 a, .int .i64 b]] W fun e w' => e = .returned (.int .i64 (bytesL l)) ∧ Below W.heap.size W w' := by
  obtain ⟨m, rfl, h⟩ := hg
  exact bytes_any v m a b W h hs
theorem small_names {l : List NodeL} (h : Small l) : ∀ n ∈ l, n.names.length ≤ 10000 := fun n hn => Nat.le_trans (h.2 n hn).2 (by decide)
theorem get_names {l : List NodeL} (h : Small l) (i : Int) : (getL l i).names.length ≤ 10000 := by
  unfold getL
  split
  · unfold atI
    rcases Nat.lt_or_ge i.toNat l.length with h1 | h1
    · rw [List.getD_eq_getElem?_getD, List.getElem?_eq_getElem h1]; exact small_names h _ (List.getElem_mem _)
    · rw [List.getD_eq_getElem?_getD, List.getElem?_eq_none h1]; exact Nat.zero_le _
  · exact Nat.zero_le _
set_option maxRecDepth 100000 in
set_option maxHeartbeats 4000000 in
theorem pedit_c (X : Nat → Prop) (l : List NodeL) (most room i num : Int) (M : Option Nm) (ao : Option Addr) (cap bN : Nat) (w : World) (hX : Old X w) (hg : GivesX X l (.slice ao l.length cap) w) (hs : Small l)
    (hM : fileE l i = 0 → 0 ≤ num → ∀ W, Below w.heap.size w W → Calls Try.prog 32 #[.string (bs (getL l i).data), .pointer (some ⟨bN, 0, none⟩)] W fun e w' => MadeIs M e W w') (hMl : ∀ b, M = some b → b.length ≤ 100000) :
    Calls Try.prog 27 #[diskV ao l.length cap most room, .int .i64 i, .int .i64 num, .func (.func 32) #[] #[.pointer (some ⟨bN, 0, none⟩)]] w fun e w' => ChgX X (editL l room i num M).1 (editL l room i num M).2 most room e w w' := by
  have S0 := Lib.hid (St.start (G := [(l, .slice ao l.length cap)]) (N := []) hX (one_g hg) no_n)
  have HRET : Hid (∀ (W : World) (cs : Array Value) (fr), W.heap[w.heap.size + 1]? = some (.cells cs 24 fr) → cs.size = 3 → ∀ tmps : Array Value, tmps.getD 8 undef = .pointer (some ⟨w.heap.size + 1, 0, none⟩) → (results Try.f27 tmps).run Try.prog W = .ok (.tuple #[.agg cs, tmps.getD 9 undef]) W) := Lib.hid fun W cs fr h hs tmps ht =>
  results_ct (p := 8) (u := 9) (ty := 24) rfl tmps W (w.heap.size + 1) _ cs fr _ ht h Try.underlying24 rfl (by rw [hs]; kernel_rfl)
  have HSm := Lib.hid hs
  have HD := Lib.hid (data_small hs i)
  have HNm := Lib.hid (get_names hs i)
  have HB := Lib.hid (small_bytes hs)
  have HM := Lib.hid hM
  have HMl := Lib.hid hMl
  clear hX hg hs hM hMl
  go_enter Try.func27, Try.ntmps27
  go_upto_region 1 with (fail)
  refine code_fresh2 ?_
  intro W1 hb hA0 hA1 hs
  have S1 := Lib.hid (S0.out.new2 hb hA0 hA1)
  clear hb hA0 hA1 hs
  obtain ⟨d0, d1, d2⟩ := cells3 (S1.out.at 0 rfl)
  go_wp2_with fail
  refine (pfile_c _ l most room i _ _ W1 S1.out.oldX (S1.out.g 0 rfl) (Nat.le_trans HSm.out.1 (by decide)) (small_names HSm.out)).mono ?_
  rintro e W2 ⟨aon, cpn, rfl, hn1, hb⟩
  clear d0 d1 d2
  have S2 := Lib.hid ((S1.out.call hb).addN hn1)
  clear hb hn1
  obtain ⟨n, hn⟩ : ∃ n, n = fileN l i := ⟨_, rfl⟩
  obtain ⟨f, hf⟩ : ∃ f, f = fileE l i := ⟨_, rfl⟩
  rw [← hn] at S2 ⊢
  rw [← hf]
  have HN := Lib.hid hn
  have HF := Lib.hid hf
  clear hn hf
  go_upto_region 2 with (fail)
  refine code_fresh1 ?_
  intro W3 hb hA0 hs
  have S3 := Lib.hid (S2.out.new1 hb hA0)
  clear hb hA0 hs
  by_cases h0 : f = 0
  · subst h0
    replace HN := Lib.hid (HN.out.trans (fileN_ok HF.out.symm))
    have hnl := HD.out
    have hnm := HNm.out
    rw [← HN.out] at hnl hnm
    have HR0 : Hid (editL l room i num M = if num < 0 then (l, 1) else match M with | none => (l, 10) | some b => keptL l room i b) := Lib.hid (by unfold editL; rw [← HF.out, if_neg (by simp)])
    by_cases ha : num < 0
    · have i1 : decide (num < 0) = true := decide_eq_true ha
      have HR := Lib.hid (HR0.out.trans (if_pos ha))
      clear ha
      have h_r := (S3.out.at 1 rfl)
      have h_d := (S3.out.at 0 rfl)
      go_wp2_with (first | (refine wpList_load_row rfl 24 _ rfl _ rfl 24 _ (0, 0) _ h_d Try.underlying24 rfl (by kernel_rfl) ?_) | (refine wpList_store_row rfl 24 _ _ rfl _ rfl rfl h_r rfl (by kernel_rfl) rfl ?_; intro W4 hb hg hs hn; have S4 := Lib.hid (S3.out.set 1 rfl hb hg hs hn); clear hb hg hs hn))
      refine bodyPost_ret (HRET.out _ _ _ (S4.out.at 1 rfl) rfl _ rfl) rfl ?_
      rw [HR.out]
      exact ⟨_, _, rfl, S4.out.gX 0 rfl, S4.out.bel⟩
    · have i1 : decide (num < 0) = false := decide_eq_false ha
      replace HR0 := Lib.hid (HR0.out.trans (if_neg ha))
      replace HM := Lib.hid (HM.out HF.out.symm (by omega))
      rw [← HN.out] at HM
      clear ha
      cases M with
      | none =>
        have HR := HR0
        obtain ⟨-, -, -, -, -, -, n6, -⟩ := cells8 (S3.out.at 2 rfl)
        go_wp2_with fail
        refine (HM.out _ S3.out.bel).mono ?_
        rintro e W4 ⟨aob, cpb, rfl, hbv, hb⟩
        clear n6
        have S4 := Lib.hid (S3.out.call hb)
        have HBV := Lib.hid hbv
        clear hbv
        clear hb
        have w1 : IntKind.i64.wrap ((0 : Int) - (n.data.length : Int)) = (0 : Int) - (n.data.length : Int) := Go.IntWalk.i64_in _ (by omega)
        have w2 : IntKind.i64.wrap (-(n.data.length : Int)) = -(n.data.length : Int) := Go.IntWalk.i64_in _ (by omega)
        obtain ⟨-, -, -, -, -, -, n6, -⟩ := cells8 (S4.out.at 2 rfl)
        go_upto_region 8 with (fail)
        clear n6
        have h_d := (S4.out.at 0 rfl)
        refine wp_region_held_drew (S := fun W => W.heap[w.heap.size]? = some (.cells #[.slice ao l.length cap, .int .i64 most, .int .i64 room] 24 (0, 0)) ∧ True) (by kernel_rfl) ⟨(S4.out.at 0 rfl), trivial⟩ (fun hHeld => ?_)
        clear h_d
        have S5 := Lib.hid (S4.out.call (Below.refl W4.heap.size W4).drew)
        generalize W4.drew = W5 at *
        refine wpAnyH_take (i := 0) (v := ?v1) rfl (by kernel_rfl) (by kernel_rfl) (by kernel_rfl) (fun _ _ _ h => h) (Or.inl ⟨by rfl, ?hy1⟩) hHeld ?rest1
        case hy1 => (intro w hSw; (try dsimp only at hSw); (try go_split_ands); go_simp; first | done | with_reducible rfl)
        (try simp only [List.getElem_toArray]); (try simp only [List.getElem_cons_succ]); (try simp only [List.getElem_cons_zero]); (try simp only [Act.put]); (try simp only [List.setIfInBounds_toArray]); (try simp only [List.set_cons_succ]); (try simp only [List.set_cons_zero])
        refine wpAnyH_take (i := 1) (v := ?v2) rfl (by kernel_rfl) (by kernel_rfl) (by kernel_rfl) (fun _ _ _ h => h) (Or.inl ⟨by rfl, ?hy2⟩) hHeld ?rest2
        case hy2 => (intro w hSw; (try dsimp only at hSw); (try go_split_ands); go_simp; first | done | with_reducible rfl)
        (try simp only [List.getElem_toArray]); (try simp only [List.getElem_cons_succ]); (try simp only [List.getElem_cons_zero]); (try simp only [Act.put]); (try simp only [List.setIfInBounds_toArray]); (try simp only [List.set_cons_succ]); (try simp only [List.set_cons_zero])
        refine wpAnyH_take (i := 2) (v := ?v3) rfl (by kernel_rfl) (by kernel_rfl) (by kernel_rfl) (fun _ _ _ h => h) (Or.inl ⟨by rfl, ?hy3⟩) hHeld ?rest3
        case hy3 => (intro w hSw; (try dsimp only at hSw); (try go_split_ands); go_simp; first | done | with_reducible rfl)
        (try simp only [List.getElem_toArray]); (try simp only [List.getElem_cons_succ]); (try simp only [List.getElem_cons_zero]); (try simp only [Act.put]); (try simp only [List.setIfInBounds_toArray]); (try simp only [List.set_cons_succ]); (try simp only [List.set_cons_zero])
        refine wpAnyH_take (i := 3) (v := undef) rfl (by kernel_rfl) (by kernel_rfl) (by kernel_rfl) (fun _ _ _ h => h) (Or.inr ⟨by rfl, rfl⟩) hHeld ?_
        (try simp only [List.getElem_toArray]); (try simp only [List.getElem_cons_succ]); (try simp only [List.getElem_cons_zero]); (try simp only [Act.put]); (try simp only [List.setIfInBounds_toArray]); (try simp only [List.set_cons_succ]); (try simp only [List.set_cons_zero])
        refine wpAnyH_take (i := 4) (v := undef) rfl (by kernel_rfl) (by kernel_rfl) (by kernel_rfl) (fun _ _ _ h => h) (Or.inr ⟨by rfl, rfl⟩) hHeld ?_
        (try simp only [List.getElem_toArray]); (try simp only [List.getElem_cons_succ]); (try simp only [List.getElem_cons_zero]); (try simp only [Act.put]); (try simp only [List.setIfInBounds_toArray]); (try simp only [List.set_cons_succ]); (try simp only [List.set_cons_zero])
        refine wpAnyH_take (i := 5) (v := undef) rfl (by kernel_rfl) (by kernel_rfl) (by kernel_rfl) (fun _ _ _ h => h) (Or.inr ⟨by rfl, rfl⟩) hHeld ?_
        (try simp only [List.getElem_toArray]); (try simp only [List.getElem_cons_succ]); (try simp only [List.getElem_cons_zero]); (try simp only [Act.put]); (try simp only [List.setIfInBounds_toArray]); (try simp only [List.set_cons_succ]); (try simp only [List.set_cons_zero])
        refine wpAnyH_take (i := 6) (v := undef) rfl (by kernel_rfl) (by kernel_rfl) (by kernel_rfl) (fun _ _ _ h => h) (Or.inr ⟨by rfl, rfl⟩) hHeld ?_
        (try simp only [List.getElem_toArray]); (try simp only [List.getElem_cons_succ]); (try simp only [List.getElem_cons_zero]); (try simp only [Act.put]); (try simp only [List.setIfInBounds_toArray]); (try simp only [List.set_cons_succ]); (try simp only [List.set_cons_zero])
        refine wpAnyH_take (i := 7) (v := undef) rfl (by kernel_rfl) (by kernel_rfl) (by kernel_rfl) (fun _ _ _ h => h) (Or.inr ⟨by rfl, rfl⟩) hHeld ?_
        (try simp only [List.getElem_toArray]); (try simp only [List.getElem_cons_succ]); (try simp only [List.getElem_cons_zero]); (try simp only [Act.put]); (try simp only [List.setIfInBounds_toArray]); (try simp only [List.set_cons_succ]); (try simp only [List.set_cons_zero])
        refine wpAnyH_take (i := 8) (v := undef) rfl (by kernel_rfl) (by kernel_rfl) (by kernel_rfl) (fun _ _ _ h => h) (Or.inr ⟨by rfl, rfl⟩) hHeld ?_
        (try simp only [List.getElem_toArray]); (try simp only [List.getElem_cons_succ]); (try simp only [List.getElem_cons_zero]); (try simp only [Act.put]); (try simp only [List.setIfInBounds_toArray]); (try simp only [List.set_cons_succ]); (try simp only [List.set_cons_zero])
        refine wpAnyH_take (i := 9) (v := undef) rfl (by kernel_rfl) (by kernel_rfl) (by kernel_rfl) (fun _ _ _ h => h) (Or.inr ⟨by rfl, rfl⟩) hHeld ?_
        (try simp only [List.getElem_toArray]); (try simp only [List.getElem_cons_succ]); (try simp only [List.getElem_cons_zero]); (try simp only [Act.put]); (try simp only [List.setIfInBounds_toArray]); (try simp only [List.set_cons_succ]); (try simp only [List.set_cons_zero])
        refine wpAnyH_take (i := 10) (v := undef) rfl (by kernel_rfl) (by kernel_rfl) (by kernel_rfl) (fun _ _ _ h => h) (Or.inr ⟨by rfl, rfl⟩) hHeld ?_
        (try simp only [List.getElem_toArray]); (try simp only [List.getElem_cons_succ]); (try simp only [List.getElem_cons_zero]); (try simp only [Act.put]); (try simp only [List.setIfInBounds_toArray]); (try simp only [List.set_cons_succ]); (try simp only [List.set_cons_zero])
        refine wpAnyH_take (i := 11) (v := undef) rfl (by kernel_rfl) (by kernel_rfl) (by kernel_rfl) (fun _ _ _ h => h) (Or.inr ⟨by rfl, rfl⟩) hHeld ?_
        (try simp only [List.getElem_toArray]); (try simp only [List.getElem_cons_succ]); (try simp only [List.getElem_cons_zero]); (try simp only [Act.put]); (try simp only [List.setIfInBounds_toArray]); (try simp only [List.set_cons_succ]); (try simp only [List.set_cons_zero])
        refine wpAnyH_take (i := 12) (v := undef) rfl (by kernel_rfl) (by kernel_rfl) (by kernel_rfl) (fun _ _ _ h => h) (Or.inr ⟨by rfl, rfl⟩) hHeld ?_
        (try simp only [List.getElem_toArray]); (try simp only [List.getElem_cons_succ]); (try simp only [List.getElem_cons_zero]); (try simp only [Act.put]); (try simp only [List.setIfInBounds_toArray]); (try simp only [List.set_cons_succ]); (try simp only [List.set_cons_zero])
        refine wpAnyH_take (i := 13) (v := undef) rfl (by kernel_rfl) (by kernel_rfl) (by kernel_rfl) (fun _ _ _ h => h) (Or.inr ⟨by rfl, rfl⟩) hHeld ?_
        (try simp only [List.getElem_toArray]); (try simp only [List.getElem_cons_succ]); (try simp only [List.getElem_cons_zero]); (try simp only [Act.put]); (try simp only [List.setIfInBounds_toArray]); (try simp only [List.set_cons_succ]); (try simp only [List.set_cons_zero])
        refine wpAnyH_take (i := 14) (v := ?v4) rfl (by kernel_rfl) (by kernel_rfl) (by kernel_rfl) (fun _ _ _ h => h) (Or.inl ⟨by rfl, ?hy4⟩) hHeld ?rest4
        case hy4 => (intro w hSw; (try dsimp only at hSw); (try go_split_ands); go_simp; first | done | with_reducible rfl)
        (try simp only [List.getElem_toArray]); (try simp only [List.getElem_cons_succ]); (try simp only [List.getElem_cons_zero]); (try simp only [Act.put]); (try simp only [List.setIfInBounds_toArray]); (try simp only [List.set_cons_succ]); (try simp only [List.set_cons_zero])
        refine wpAnyH_done (by kernel_rfl) ?_ _
        have h_r := (S5.out.at 1 rfl)
        have h_d := (S5.out.at 0 rfl)
        go_wp2_with (first | (refine wpList_load_row rfl 24 _ rfl _ rfl 24 _ (0, 0) _ h_d Try.underlying24 rfl (by kernel_rfl) ?_) | (refine wpList_store_row rfl 24 _ _ rfl _ rfl rfl h_r rfl (by kernel_rfl) rfl ?_; intro W6 hb hg hs hn; have S6 := Lib.hid (S5.out.set 1 rfl hb hg hs hn); clear hb hg hs hn))
        refine bodyPost_ret (HRET.out _ _ _ (S6.out.at 1 rfl) rfl _ rfl) rfl ?_
        rw [HR.out]
        exact ⟨_, _, rfl, S6.out.gX 0 rfl, S6.out.bel⟩
      | some b =>
        replace HR0 := Lib.hid (HR0.out.trans (kept_N l room i b))
        rw [← HN.out] at HR0
        have hbl := HMl.out b rfl
        obtain ⟨-, -, -, -, -, -, n6, -⟩ := cells8 (S3.out.at 2 rfl)
        go_wp2_with fail
        refine (HM.out _ S3.out.bel).mono ?_
        rintro e W4 ⟨aob, cpb, rfl, hbv, hb⟩
        clear n6
        have S4 := Lib.hid (S3.out.call hb)
        have HBV := Lib.hid hbv
        clear hbv
        clear hb
        have w1 : IntKind.i64.wrap ((b.length : Int) - (n.data.length : Int)) = (b.length : Int) - (n.data.length : Int) := Go.IntWalk.i64_in _ (by omega)
        obtain ⟨-, -, -, -, -, -, n6, -⟩ := cells8 (S4.out.at 2 rfl)
        go_upto_region 8 with (fail)
        clear n6
        by_cases h1 : n.data.length < b.length
        · have i2 : decide ((0 : Int) < (b.length : Int) - (n.data.length : Int)) = true := decide_eq_true (by omega)
          have i3 : decide ((n.data.length : Int) < (b.length : Int)) = true := decide_eq_true (by omega)
          have i31 : decide (n.data.length < b.length) = true := decide_eq_true h1
          have w2 : IntKind.i64.wrap ((bytesL l : Int) + ((b.length : Int) - (n.data.length : Int))) = (bytesL l : Int) + ((b.length : Int) - (n.data.length : Int)) := Go.IntWalk.i64_in _ (by have := HB.out; omega)
          by_cases h2 : room < (bytesL l : Int) + ((b.length : Int) - (n.data.length : Int))
          · have i4 : decide (room < (bytesL l : Int) + ((b.length : Int) - (n.data.length : Int))) = true := decide_eq_true h2
            have HR : Hid (editL l room i num (some b) = (l, 10)) := Lib.hid (HR0.out.trans (if_pos ⟨h1, by omega⟩))
            clear h1 h2
            have HBV2 : Hid (BytesV b (.slice aob b.length cpb) W4.drew) := Lib.hid (bytesV_keep HBV.out (Below.refl _ W4).drew)
            clear HBV
            have h_d := (S4.out.at 0 rfl)
            refine wp_region_held_drew (S := fun W => W.heap[w.heap.size]? = some (.cells #[.slice ao l.length cap, .int .i64 most, .int .i64 room] 24 (0, 0)) ∧ W.cell? ⟨w.heap.size, 2, none⟩ = some (.int .i64 room) ∧ True) (by kernel_rfl) ⟨(S4.out.at 0 rfl), (cells3 (S4.out.at 0 rfl)).2.2, trivial⟩ (fun hHeld => ?_)
            clear h_d
            have S5 := Lib.hid (S4.out.call (Below.refl W4.heap.size W4).drew)
            generalize W4.drew = W5 at *
            have HBV := HBV2
            clear HBV2
            refine wpAnyH_take (i := 0) (v := ?v5) rfl (by kernel_rfl) (by kernel_rfl) (by kernel_rfl) (fun _ _ _ h => h) (Or.inl ⟨by rfl, ?hy5⟩) hHeld ?rest5
            case hy5 => (intro w hSw; (try dsimp only at hSw); (try go_split_ands); go_simp; first | done | with_reducible rfl)
            (try simp only [List.getElem_toArray]); (try simp only [List.getElem_cons_succ]); (try simp only [List.getElem_cons_zero]); (try simp only [Act.put]); (try simp only [List.setIfInBounds_toArray]); (try simp only [List.set_cons_succ]); (try simp only [List.set_cons_zero])
            refine wpAnyH_take (i := 1) (v := ?v6) rfl (by kernel_rfl) (by kernel_rfl) (by kernel_rfl) (fun _ _ _ h => h) (Or.inl ⟨by rfl, ?hy6⟩) hHeld ?rest6
            case hy6 => (intro w hSw; (try dsimp only at hSw); (try go_split_ands); go_simp; first | done | with_reducible rfl)
            (try simp only [List.getElem_toArray]); (try simp only [List.getElem_cons_succ]); (try simp only [List.getElem_cons_zero]); (try simp only [Act.put]); (try simp only [List.setIfInBounds_toArray]); (try simp only [List.set_cons_succ]); (try simp only [List.set_cons_zero])
            refine wpAnyH_take (i := 2) (v := ?v7) rfl (by kernel_rfl) (by kernel_rfl) (by kernel_rfl) (fun _ _ _ h => h) (Or.inl ⟨by rfl, ?hy7⟩) hHeld ?rest7
            case hy7 => (intro w hSw; (try dsimp only at hSw); (try go_split_ands); go_simp; first | done | with_reducible rfl)
            (try simp only [List.getElem_toArray]); (try simp only [List.getElem_cons_succ]); (try simp only [List.getElem_cons_zero]); (try simp only [Act.put]); (try simp only [List.setIfInBounds_toArray]); (try simp only [List.set_cons_succ]); (try simp only [List.set_cons_zero])
            refine wpAnyH_take (i := 3) (v := ?v8) rfl (by kernel_rfl) (by kernel_rfl) (by kernel_rfl) (fun _ _ _ h => h) (Or.inl ⟨by rfl, ?hy8⟩) hHeld ?rest8
            case hy8 => (intro w hSw; (try dsimp only at hSw); (try go_split_ands); go_simp; first | done | with_reducible rfl)
            (try simp only [List.getElem_toArray]); (try simp only [List.getElem_cons_succ]); (try simp only [List.getElem_cons_zero]); (try simp only [Act.put]); (try simp only [List.setIfInBounds_toArray]); (try simp only [List.set_cons_succ]); (try simp only [List.set_cons_zero])
            refine wpAnyH_take (i := 4) (v := ?v9) rfl (by kernel_rfl) (by kernel_rfl) (by kernel_rfl) (fun _ _ _ h => h) (Or.inl ⟨by rfl, ?hy9⟩) hHeld ?rest9
            case hy9 => (intro w hSw; (try dsimp only at hSw); (try go_split_ands); go_simp; first | done | with_reducible rfl)
            (try simp only [List.getElem_toArray]); (try simp only [List.getElem_cons_succ]); (try simp only [List.getElem_cons_zero]); (try simp only [Act.put]); (try simp only [List.setIfInBounds_toArray]); (try simp only [List.set_cons_succ]); (try simp only [List.set_cons_zero])
            refine wpAnyH_take (i := 5) (v := ?v10) rfl (by kernel_rfl) (by kernel_rfl) (by kernel_rfl) (fun _ _ _ h => h) (Or.inl ⟨by rfl, ?hy10⟩) hHeld ?rest10
            case hy10 => (intro w hSw; (try dsimp only at hSw); (try go_split_ands); go_simp; first | done | with_reducible rfl)
            (try simp only [List.getElem_toArray]); (try simp only [List.getElem_cons_succ]); (try simp only [List.getElem_cons_zero]); (try simp only [Act.put]); (try simp only [List.setIfInBounds_toArray]); (try simp only [List.set_cons_succ]); (try simp only [List.set_cons_zero])
            refine wpAnyH_take (i := 6) rfl (by kernel_rfl) (by kernel_rfl) (by kernel_rfl) (fun _ _ _ h => h) (yieldsIf_load_row (by rfl) 24 _ rfl _ rfl 24 _ (0, 0) _ (fun _ h => h.1) Try.underlying24 rfl (by kernel_rfl)) hHeld ?_
            (try simp only [List.getElem_toArray]); (try simp only [List.getElem_cons_succ]); (try simp only [List.getElem_cons_zero]); (try simp only [Act.put]); (try simp only [List.setIfInBounds_toArray]); (try simp only [List.set_cons_succ]); (try simp only [List.set_cons_zero])
            refine wpAnyH_take (i := 8) (v := ?v11) rfl (by kernel_rfl) (by kernel_rfl) (by kernel_rfl) (fun _ _ _ h => h) (Or.inl ⟨by rfl, ?hy11⟩) hHeld ?rest11
            case hy11 => (intro w hSw; (try dsimp only at hSw); (try go_split_ands); go_simp; first | done | with_reducible rfl)
            (try simp only [List.getElem_toArray]); (try simp only [List.getElem_cons_succ]); (try simp only [List.getElem_cons_zero]); (try simp only [Act.put]); (try simp only [List.setIfInBounds_toArray]); (try simp only [List.set_cons_succ]); (try simp only [List.set_cons_zero])
            refine wpAnyH_take (i := 10) (v := ?v12) rfl (by kernel_rfl) (by kernel_rfl) (by kernel_rfl) (fun _ _ _ h => h) (Or.inl ⟨by rfl, ?hy12⟩) hHeld ?rest12
            case hy12 => (intro w hSw; (try dsimp only at hSw); (try go_split_ands); go_simp; first | done | with_reducible rfl)
            (try simp only [List.getElem_toArray]); (try simp only [List.getElem_cons_succ]); (try simp only [List.getElem_cons_zero]); (try simp only [Act.put]); (try simp only [List.setIfInBounds_toArray]); (try simp only [List.set_cons_succ]); (try simp only [List.set_cons_zero])
            refine wpAnyH_take (i := 11) (v := ?v13) rfl (by kernel_rfl) (by kernel_rfl) (by kernel_rfl) (fun _ _ _ h => h) (Or.inl ⟨by rfl, ?hy13⟩) hHeld ?rest13
            case hy13 => (intro w hSw; (try dsimp only at hSw); (try go_split_ands); go_simp; first | done | with_reducible rfl)
            (try simp only [List.getElem_toArray]); (try simp only [List.getElem_cons_succ]); (try simp only [List.getElem_cons_zero]); (try simp only [Act.put]); (try simp only [List.setIfInBounds_toArray]); (try simp only [List.set_cons_succ]); (try simp only [List.set_cons_zero])
            refine wpAnyH_ready (rs := [7]) (by kernel_rfl) (by simp) ?_
            refine AllReadyH.cons rfl (fun K hK => ?_) AllReadyH.nil
            go_simp
            refine (pbytes_c l most room HSm.out _ W5 (S5.out.g 0 rfl).gives).mono ?_
            rintro e W6 ⟨rfl, hb⟩
            have S6 := Lib.hid (S5.out.call hb)
            replace HBV := Lib.hid (bytesV_keep HBV.out hb)
            clear hb hHeld
            go_wp2_with fail
            refine hK.out _ _ ⟨(S6.out.at 0 rfl), (cells3 (S6.out.at 0 rfl)).2.2, trivial⟩ (fun hHeld => ?_)
            clear hK K
            (try simp only [List.getElem_toArray]); (try simp only [List.getElem_cons_succ]); (try simp only [List.getElem_cons_zero]); (try simp only [Act.put]); (try simp only [List.setIfInBounds_toArray]); (try simp only [List.set_cons_succ]); (try simp only [List.set_cons_zero])
            refine wpAnyH_take (i := 9) (v := ?v14) rfl (by kernel_rfl) (by kernel_rfl) (by kernel_rfl) (fun _ _ _ h => h) (Or.inl ⟨by rfl, ?hy14⟩) hHeld ?rest14
            case hy14 => (intro w hSw; (try dsimp only at hSw); (try go_split_ands); go_simp; first | done | with_reducible rfl)
            (try simp only [List.getElem_toArray]); (try simp only [List.getElem_cons_succ]); (try simp only [List.getElem_cons_zero]); (try simp only [Act.put]); (try simp only [List.setIfInBounds_toArray]); (try simp only [List.set_cons_succ]); (try simp only [List.set_cons_zero])
            refine wpAnyH_take (i := 12) (v := ?v15) rfl (by kernel_rfl) (by kernel_rfl) (by kernel_rfl) (fun _ _ _ h => h) (Or.inl ⟨by rfl, ?hy15⟩) hHeld ?rest15
            case hy15 => (intro w hSw; (try dsimp only at hSw); (try go_split_ands); go_simp; first | done | with_reducible rfl)
            (try simp only [List.getElem_toArray]); (try simp only [List.getElem_cons_succ]); (try simp only [List.getElem_cons_zero]); (try simp only [Act.put]); (try simp only [List.setIfInBounds_toArray]); (try simp only [List.set_cons_succ]); (try simp only [List.set_cons_zero])
            refine wpAnyH_take (i := 13) (v := ?v16) rfl (by kernel_rfl) (by kernel_rfl) (by kernel_rfl) (fun _ _ _ h => h) (Or.inl ⟨by rfl, ?hy16⟩) hHeld ?rest16
            case hy16 => (intro w hSw; (try dsimp only at hSw); (try go_split_ands); go_simp; first | done | with_reducible rfl)
            (try simp only [List.getElem_toArray]); (try simp only [List.getElem_cons_succ]); (try simp only [List.getElem_cons_zero]); (try simp only [Act.put]); (try simp only [List.setIfInBounds_toArray]); (try simp only [List.set_cons_succ]); (try simp only [List.set_cons_zero])
            refine wpAnyH_take (i := 14) (v := ?v17) rfl (by kernel_rfl) (by kernel_rfl) (by kernel_rfl) (fun _ _ _ h => h) (Or.inl ⟨by rfl, ?hy17⟩) hHeld ?rest17
            case hy17 => (intro w hSw; (try dsimp only at hSw); (try go_split_ands); go_simp; first | done | with_reducible rfl)
            (try simp only [List.getElem_toArray]); (try simp only [List.getElem_cons_succ]); (try simp only [List.getElem_cons_zero]); (try simp only [Act.put]); (try simp only [List.setIfInBounds_toArray]); (try simp only [List.set_cons_succ]); (try simp only [List.set_cons_zero])
            refine wpAnyH_done (by kernel_rfl) ?_ _
            have h_r := (S6.out.at 1 rfl)
            have h_d := (S6.out.at 0 rfl)
            go_wp2_with (first | (refine wpList_load_row rfl 24 _ rfl _ rfl 24 _ (0, 0) _ h_d Try.underlying24 rfl (by kernel_rfl) ?_) | (refine wpList_store_row rfl 24 _ _ rfl _ rfl rfl h_r rfl (by kernel_rfl) rfl ?_; intro W7 hb hg hs hn; have S7 := Lib.hid (S6.out.set 1 rfl hb hg hs hn); clear hb hg hs hn))
            refine bodyPost_ret (HRET.out _ _ _ (S7.out.at 1 rfl) rfl _ rfl) rfl ?_
            rw [HR.out]
            exact ⟨_, _, rfl, S7.out.gX 0 rfl, S7.out.bel⟩
          · have i4 : decide (room < (bytesL l : Int) + ((b.length : Int) - (n.data.length : Int))) = false := decide_eq_false h2
            have HR : Hid (editL l room i num (some b) = (setL l i (dataN n b), 0)) := Lib.hid (HR0.out.trans (if_neg fun h => h2 (by have := h.2; omega)))
            clear h1 h2
            have HBV2 : Hid (BytesV b (.slice aob b.length cpb) W4.drew) := Lib.hid (bytesV_keep HBV.out (Below.refl _ W4).drew)
            clear HBV
            have h_d := (S4.out.at 0 rfl)
            refine wp_region_held_drew (S := fun W => W.heap[w.heap.size]? = some (.cells #[.slice ao l.length cap, .int .i64 most, .int .i64 room] 24 (0, 0)) ∧ W.cell? ⟨w.heap.size, 2, none⟩ = some (.int .i64 room) ∧ True) (by kernel_rfl) ⟨(S4.out.at 0 rfl), (cells3 (S4.out.at 0 rfl)).2.2, trivial⟩ (fun hHeld => ?_)
            clear h_d
            have S5 := Lib.hid (S4.out.call (Below.refl W4.heap.size W4).drew)
            generalize W4.drew = W5 at *
            have HBV := HBV2
            clear HBV2
            refine wpAnyH_take (i := 0) (v := ?v18) rfl (by kernel_rfl) (by kernel_rfl) (by kernel_rfl) (fun _ _ _ h => h) (Or.inl ⟨by rfl, ?hy18⟩) hHeld ?rest18
            case hy18 => (intro w hSw; (try dsimp only at hSw); (try go_split_ands); go_simp; first | done | with_reducible rfl)
            (try simp only [List.getElem_toArray]); (try simp only [List.getElem_cons_succ]); (try simp only [List.getElem_cons_zero]); (try simp only [Act.put]); (try simp only [List.setIfInBounds_toArray]); (try simp only [List.set_cons_succ]); (try simp only [List.set_cons_zero])
            refine wpAnyH_take (i := 1) (v := ?v19) rfl (by kernel_rfl) (by kernel_rfl) (by kernel_rfl) (fun _ _ _ h => h) (Or.inl ⟨by rfl, ?hy19⟩) hHeld ?rest19
            case hy19 => (intro w hSw; (try dsimp only at hSw); (try go_split_ands); go_simp; first | done | with_reducible rfl)
            (try simp only [List.getElem_toArray]); (try simp only [List.getElem_cons_succ]); (try simp only [List.getElem_cons_zero]); (try simp only [Act.put]); (try simp only [List.setIfInBounds_toArray]); (try simp only [List.set_cons_succ]); (try simp only [List.set_cons_zero])
            refine wpAnyH_take (i := 2) (v := ?v20) rfl (by kernel_rfl) (by kernel_rfl) (by kernel_rfl) (fun _ _ _ h => h) (Or.inl ⟨by rfl, ?hy20⟩) hHeld ?rest20
            case hy20 => (intro w hSw; (try dsimp only at hSw); (try go_split_ands); go_simp; first | done | with_reducible rfl)
            (try simp only [List.getElem_toArray]); (try simp only [List.getElem_cons_succ]); (try simp only [List.getElem_cons_zero]); (try simp only [Act.put]); (try simp only [List.setIfInBounds_toArray]); (try simp only [List.set_cons_succ]); (try simp only [List.set_cons_zero])
            refine wpAnyH_take (i := 3) (v := ?v21) rfl (by kernel_rfl) (by kernel_rfl) (by kernel_rfl) (fun _ _ _ h => h) (Or.inl ⟨by rfl, ?hy21⟩) hHeld ?rest21
            case hy21 => (intro w hSw; (try dsimp only at hSw); (try go_split_ands); go_simp; first | done | with_reducible rfl)
            (try simp only [List.getElem_toArray]); (try simp only [List.getElem_cons_succ]); (try simp only [List.getElem_cons_zero]); (try simp only [Act.put]); (try simp only [List.setIfInBounds_toArray]); (try simp only [List.set_cons_succ]); (try simp only [List.set_cons_zero])
            refine wpAnyH_take (i := 4) (v := ?v22) rfl (by kernel_rfl) (by kernel_rfl) (by kernel_rfl) (fun _ _ _ h => h) (Or.inl ⟨by rfl, ?hy22⟩) hHeld ?rest22
            case hy22 => (intro w hSw; (try dsimp only at hSw); (try go_split_ands); go_simp; first | done | with_reducible rfl)
            (try simp only [List.getElem_toArray]); (try simp only [List.getElem_cons_succ]); (try simp only [List.getElem_cons_zero]); (try simp only [Act.put]); (try simp only [List.setIfInBounds_toArray]); (try simp only [List.set_cons_succ]); (try simp only [List.set_cons_zero])
            refine wpAnyH_take (i := 5) (v := ?v23) rfl (by kernel_rfl) (by kernel_rfl) (by kernel_rfl) (fun _ _ _ h => h) (Or.inl ⟨by rfl, ?hy23⟩) hHeld ?rest23
            case hy23 => (intro w hSw; (try dsimp only at hSw); (try go_split_ands); go_simp; first | done | with_reducible rfl)
            (try simp only [List.getElem_toArray]); (try simp only [List.getElem_cons_succ]); (try simp only [List.getElem_cons_zero]); (try simp only [Act.put]); (try simp only [List.setIfInBounds_toArray]); (try simp only [List.set_cons_succ]); (try simp only [List.set_cons_zero])
            refine wpAnyH_take (i := 6) rfl (by kernel_rfl) (by kernel_rfl) (by kernel_rfl) (fun _ _ _ h => h) (yieldsIf_load_row (by rfl) 24 _ rfl _ rfl 24 _ (0, 0) _ (fun _ h => h.1) Try.underlying24 rfl (by kernel_rfl)) hHeld ?_
            (try simp only [List.getElem_toArray]); (try simp only [List.getElem_cons_succ]); (try simp only [List.getElem_cons_zero]); (try simp only [Act.put]); (try simp only [List.setIfInBounds_toArray]); (try simp only [List.set_cons_succ]); (try simp only [List.set_cons_zero])
            refine wpAnyH_take (i := 8) (v := ?v24) rfl (by kernel_rfl) (by kernel_rfl) (by kernel_rfl) (fun _ _ _ h => h) (Or.inl ⟨by rfl, ?hy24⟩) hHeld ?rest24
            case hy24 => (intro w hSw; (try dsimp only at hSw); (try go_split_ands); go_simp; first | done | with_reducible rfl)
            (try simp only [List.getElem_toArray]); (try simp only [List.getElem_cons_succ]); (try simp only [List.getElem_cons_zero]); (try simp only [Act.put]); (try simp only [List.setIfInBounds_toArray]); (try simp only [List.set_cons_succ]); (try simp only [List.set_cons_zero])
            refine wpAnyH_take (i := 10) (v := ?v25) rfl (by kernel_rfl) (by kernel_rfl) (by kernel_rfl) (fun _ _ _ h => h) (Or.inl ⟨by rfl, ?hy25⟩) hHeld ?rest25
            case hy25 => (intro w hSw; (try dsimp only at hSw); (try go_split_ands); go_simp; first | done | with_reducible rfl)
            (try simp only [List.getElem_toArray]); (try simp only [List.getElem_cons_succ]); (try simp only [List.getElem_cons_zero]); (try simp only [Act.put]); (try simp only [List.setIfInBounds_toArray]); (try simp only [List.set_cons_succ]); (try simp only [List.set_cons_zero])
            refine wpAnyH_take (i := 11) (v := ?v26) rfl (by kernel_rfl) (by kernel_rfl) (by kernel_rfl) (fun _ _ _ h => h) (Or.inl ⟨by rfl, ?hy26⟩) hHeld ?rest26
            case hy26 => (intro w hSw; (try dsimp only at hSw); (try go_split_ands); go_simp; first | done | with_reducible rfl)
            (try simp only [List.getElem_toArray]); (try simp only [List.getElem_cons_succ]); (try simp only [List.getElem_cons_zero]); (try simp only [Act.put]); (try simp only [List.setIfInBounds_toArray]); (try simp only [List.set_cons_succ]); (try simp only [List.set_cons_zero])
            refine wpAnyH_ready (rs := [7]) (by kernel_rfl) (by simp) ?_
            refine AllReadyH.cons rfl (fun K hK => ?_) AllReadyH.nil
            go_simp
            refine (pbytes_c l most room HSm.out _ W5 (S5.out.g 0 rfl).gives).mono ?_
            rintro e W6 ⟨rfl, hb⟩
            have S6 := Lib.hid (S5.out.call hb)
            replace HBV := Lib.hid (bytesV_keep HBV.out hb)
            clear hb hHeld
            go_wp2_with fail
            refine hK.out _ _ ⟨(S6.out.at 0 rfl), (cells3 (S6.out.at 0 rfl)).2.2, trivial⟩ (fun hHeld => ?_)
            clear hK K
            (try simp only [List.getElem_toArray]); (try simp only [List.getElem_cons_succ]); (try simp only [List.getElem_cons_zero]); (try simp only [Act.put]); (try simp only [List.setIfInBounds_toArray]); (try simp only [List.set_cons_succ]); (try simp only [List.set_cons_zero])
            refine wpAnyH_take (i := 9) (v := ?v27) rfl (by kernel_rfl) (by kernel_rfl) (by kernel_rfl) (fun _ _ _ h => h) (Or.inl ⟨by rfl, ?hy27⟩) hHeld ?rest27
            case hy27 => (intro w hSw; (try dsimp only at hSw); (try go_split_ands); go_simp; first | done | with_reducible rfl)
            (try simp only [List.getElem_toArray]); (try simp only [List.getElem_cons_succ]); (try simp only [List.getElem_cons_zero]); (try simp only [Act.put]); (try simp only [List.setIfInBounds_toArray]); (try simp only [List.set_cons_succ]); (try simp only [List.set_cons_zero])
            refine wpAnyH_take (i := 12) (v := ?v28) rfl (by kernel_rfl) (by kernel_rfl) (by kernel_rfl) (fun _ _ _ h => h) (Or.inl ⟨by rfl, ?hy28⟩) hHeld ?rest28
            case hy28 => (intro w hSw; (try dsimp only at hSw); (try go_split_ands); go_simp; first | done | with_reducible rfl)
            (try simp only [List.getElem_toArray]); (try simp only [List.getElem_cons_succ]); (try simp only [List.getElem_cons_zero]); (try simp only [Act.put]); (try simp only [List.setIfInBounds_toArray]); (try simp only [List.set_cons_succ]); (try simp only [List.set_cons_zero])
            refine wpAnyH_take (i := 13) (v := ?v29) rfl (by kernel_rfl) (by kernel_rfl) (by kernel_rfl) (fun _ _ _ h => h) (Or.inl ⟨by rfl, ?hy29⟩) hHeld ?rest29
            case hy29 => (intro w hSw; (try dsimp only at hSw); (try go_split_ands); go_simp; first | done | with_reducible rfl)
            (try simp only [List.getElem_toArray]); (try simp only [List.getElem_cons_succ]); (try simp only [List.getElem_cons_zero]); (try simp only [Act.put]); (try simp only [List.setIfInBounds_toArray]); (try simp only [List.set_cons_succ]); (try simp only [List.set_cons_zero])
            refine wpAnyH_take (i := 14) (v := ?v30) rfl (by kernel_rfl) (by kernel_rfl) (by kernel_rfl) (fun _ _ _ h => h) (Or.inl ⟨by rfl, ?hy30⟩) hHeld ?rest30
            case hy30 => (intro w hSw; (try dsimp only at hSw); (try go_split_ands); go_simp; first | done | with_reducible rfl)
            (try simp only [List.getElem_toArray]); (try simp only [List.getElem_cons_succ]); (try simp only [List.getElem_cons_zero]); (try simp only [Act.put]); (try simp only [List.setIfInBounds_toArray]); (try simp only [List.set_cons_succ]); (try simp only [List.set_cons_zero])
            refine wpAnyH_done (by kernel_rfl) ?_ _
            obtain ⟨n0, n1, n2, n3, n4, n5, n6, n7⟩ := cells8 (S6.out.at 2 rfl)
            have fn := fun j => Lib.frozen_of_heap (S6.out.at 2 rfl) j
            have hcv := run_str (P := Try.prog) 66 9 5 Try.underlying66 Try.underlying5 Try.underlying9 HBV.out
            go_upto_region 11 with (fail)
            refine code_set1 (S6.out.at 2 rfl) ?_
            intro W7 hb hg hs hn
            clear n0 n1 n2 n3 n4 n5 n6 n7 fn hcv
            have hn2 : W7.heap[W2.heap.size]? = some (.cells #[.int .i64 n.kind, .int .i64 n.mode, .int .i64 n.owner, .int .i64 n.links, .int .i64 n.opn, .int .i64 n.up, .string (bs b), .slice aon n.names.length cpn] 59 (0, 0)) := hn
            have S7 := Lib.hid (S6.out.set 2 rfl hb hg hs hn2)
            clear hb hg hs hn hn2
            have h_d := (S7.out.at 0 rfl)
            have h_n := (S7.out.at 2 rfl)
            go_wp2_with (first | (refine wpList_load_row rfl 24 _ rfl _ rfl 24 _ (0, 0) _ h_d Try.underlying24 rfl (by kernel_rfl) ?_) | (refine wpList_load_row rfl 59 _ rfl _ rfl 59 _ (0, 0) _ h_n Try.underlying59 rfl (by kernel_rfl) ?_))
            refine (set_g _ l most room i (dataN n b) _ (.slice aon n.names.length cpn) W7 S7.out.oldX (S7.out.g 0 rfl) (Nat.le_trans HSm.out.1 (by decide)) ((S7.out.n 0 rfl).same (m := dataN n b) rfl) hnm).mono ?_
            rintro e W8 ⟨ao2, cp2, rfl, hg2, hb⟩
            clear h_d h_n
            have S8 := Lib.hid ((S7.out.call hb).addG hg2)
            clear hb hg2
            have h_r := (S8.out.at 1 rfl)
            go_wp2_with (first | (refine wpList_store_row rfl 24 _ _ rfl _ rfl rfl h_r rfl (by kernel_rfl) rfl ?_; intro W9 hb hg hs hn; have S9 := Lib.hid (S8.out.set 1 rfl hb hg hs hn); clear hb hg hs hn))
            refine bodyPost_ret (HRET.out _ _ _ (S9.out.at 1 rfl) rfl _ rfl) rfl ?_
            rw [HR.out]
            exact ⟨_, _, rfl, S9.out.gX 1 rfl, S9.out.bel⟩
        · have i2 : decide ((0 : Int) < (b.length : Int) - (n.data.length : Int)) = false := decide_eq_false (by omega)
          have i3 : decide ((n.data.length : Int) < (b.length : Int)) = false := decide_eq_false (by omega)
          have i31 : decide (n.data.length < b.length) = false := decide_eq_false h1
          have HR : Hid (editL l room i num (some b) = (setL l i (dataN n b), 0)) := Lib.hid (HR0.out.trans (if_neg fun h => h1 h.1))
          clear h1
          have HBV2 : Hid (BytesV b (.slice aob b.length cpb) W4.drew) := Lib.hid (bytesV_keep HBV.out (Below.refl _ W4).drew)
          clear HBV
          have h_d := (S4.out.at 0 rfl)
          refine wp_region_held_drew (S := fun W => W.heap[w.heap.size]? = some (.cells #[.slice ao l.length cap, .int .i64 most, .int .i64 room] 24 (0, 0)) ∧ W.cell? ⟨w.heap.size, 2, none⟩ = some (.int .i64 room) ∧ True) (by kernel_rfl) ⟨(S4.out.at 0 rfl), (cells3 (S4.out.at 0 rfl)).2.2, trivial⟩ (fun hHeld => ?_)
          clear h_d
          have S5 := Lib.hid (S4.out.call (Below.refl W4.heap.size W4).drew)
          generalize W4.drew = W5 at *
          have HBV := HBV2
          clear HBV2
          refine wpAnyH_take (i := 0) (v := ?v31) rfl (by kernel_rfl) (by kernel_rfl) (by kernel_rfl) (fun _ _ _ h => h) (Or.inl ⟨by rfl, ?hy31⟩) hHeld ?rest31
          case hy31 => (intro w hSw; (try dsimp only at hSw); (try go_split_ands); go_simp; first | done | with_reducible rfl)
          (try simp only [List.getElem_toArray]); (try simp only [List.getElem_cons_succ]); (try simp only [List.getElem_cons_zero]); (try simp only [Act.put]); (try simp only [List.setIfInBounds_toArray]); (try simp only [List.set_cons_succ]); (try simp only [List.set_cons_zero])
          refine wpAnyH_take (i := 1) (v := ?v32) rfl (by kernel_rfl) (by kernel_rfl) (by kernel_rfl) (fun _ _ _ h => h) (Or.inl ⟨by rfl, ?hy32⟩) hHeld ?rest32
          case hy32 => (intro w hSw; (try dsimp only at hSw); (try go_split_ands); go_simp; first | done | with_reducible rfl)
          (try simp only [List.getElem_toArray]); (try simp only [List.getElem_cons_succ]); (try simp only [List.getElem_cons_zero]); (try simp only [Act.put]); (try simp only [List.setIfInBounds_toArray]); (try simp only [List.set_cons_succ]); (try simp only [List.set_cons_zero])
          refine wpAnyH_take (i := 2) (v := ?v33) rfl (by kernel_rfl) (by kernel_rfl) (by kernel_rfl) (fun _ _ _ h => h) (Or.inl ⟨by rfl, ?hy33⟩) hHeld ?rest33
          case hy33 => (intro w hSw; (try dsimp only at hSw); (try go_split_ands); go_simp; first | done | with_reducible rfl)
          (try simp only [List.getElem_toArray]); (try simp only [List.getElem_cons_succ]); (try simp only [List.getElem_cons_zero]); (try simp only [Act.put]); (try simp only [List.setIfInBounds_toArray]); (try simp only [List.set_cons_succ]); (try simp only [List.set_cons_zero])
          refine wpAnyH_take (i := 3) (v := ?v34) rfl (by kernel_rfl) (by kernel_rfl) (by kernel_rfl) (fun _ _ _ h => h) (Or.inl ⟨by rfl, ?hy34⟩) hHeld ?rest34
          case hy34 => (intro w hSw; (try dsimp only at hSw); (try go_split_ands); go_simp; first | done | with_reducible rfl)
          (try simp only [List.getElem_toArray]); (try simp only [List.getElem_cons_succ]); (try simp only [List.getElem_cons_zero]); (try simp only [Act.put]); (try simp only [List.setIfInBounds_toArray]); (try simp only [List.set_cons_succ]); (try simp only [List.set_cons_zero])
          refine wpAnyH_take (i := 4) (v := ?v35) rfl (by kernel_rfl) (by kernel_rfl) (by kernel_rfl) (fun _ _ _ h => h) (Or.inl ⟨by rfl, ?hy35⟩) hHeld ?rest35
          case hy35 => (intro w hSw; (try dsimp only at hSw); (try go_split_ands); go_simp; first | done | with_reducible rfl)
          (try simp only [List.getElem_toArray]); (try simp only [List.getElem_cons_succ]); (try simp only [List.getElem_cons_zero]); (try simp only [Act.put]); (try simp only [List.setIfInBounds_toArray]); (try simp only [List.set_cons_succ]); (try simp only [List.set_cons_zero])
          refine wpAnyH_take (i := 5) (v := ?v36) rfl (by kernel_rfl) (by kernel_rfl) (by kernel_rfl) (fun _ _ _ h => h) (Or.inl ⟨by rfl, ?hy36⟩) hHeld ?rest36
          case hy36 => (intro w hSw; (try dsimp only at hSw); (try go_split_ands); go_simp; first | done | with_reducible rfl)
          (try simp only [List.getElem_toArray]); (try simp only [List.getElem_cons_succ]); (try simp only [List.getElem_cons_zero]); (try simp only [Act.put]); (try simp only [List.setIfInBounds_toArray]); (try simp only [List.set_cons_succ]); (try simp only [List.set_cons_zero])
          refine wpAnyH_take (i := 6) (v := undef) rfl (by kernel_rfl) (by kernel_rfl) (by kernel_rfl) (fun _ _ _ h => h) (Or.inr ⟨by rfl, rfl⟩) hHeld ?_
          (try simp only [List.getElem_toArray]); (try simp only [List.getElem_cons_succ]); (try simp only [List.getElem_cons_zero]); (try simp only [Act.put]); (try simp only [List.setIfInBounds_toArray]); (try simp only [List.set_cons_succ]); (try simp only [List.set_cons_zero])
          refine wpAnyH_take (i := 7) (v := undef) rfl (by kernel_rfl) (by kernel_rfl) (by kernel_rfl) (fun _ _ _ h => h) (Or.inr ⟨by rfl, rfl⟩) hHeld ?_
          (try simp only [List.getElem_toArray]); (try simp only [List.getElem_cons_succ]); (try simp only [List.getElem_cons_zero]); (try simp only [Act.put]); (try simp only [List.setIfInBounds_toArray]); (try simp only [List.set_cons_succ]); (try simp only [List.set_cons_zero])
          refine wpAnyH_take (i := 8) (v := undef) rfl (by kernel_rfl) (by kernel_rfl) (by kernel_rfl) (fun _ _ _ h => h) (Or.inr ⟨by rfl, rfl⟩) hHeld ?_
          (try simp only [List.getElem_toArray]); (try simp only [List.getElem_cons_succ]); (try simp only [List.getElem_cons_zero]); (try simp only [Act.put]); (try simp only [List.setIfInBounds_toArray]); (try simp only [List.set_cons_succ]); (try simp only [List.set_cons_zero])
          refine wpAnyH_take (i := 9) (v := undef) rfl (by kernel_rfl) (by kernel_rfl) (by kernel_rfl) (fun _ _ _ h => h) (Or.inr ⟨by rfl, rfl⟩) hHeld ?_
          (try simp only [List.getElem_toArray]); (try simp only [List.getElem_cons_succ]); (try simp only [List.getElem_cons_zero]); (try simp only [Act.put]); (try simp only [List.setIfInBounds_toArray]); (try simp only [List.set_cons_succ]); (try simp only [List.set_cons_zero])
          refine wpAnyH_take (i := 10) (v := undef) rfl (by kernel_rfl) (by kernel_rfl) (by kernel_rfl) (fun _ _ _ h => h) (Or.inr ⟨by rfl, rfl⟩) hHeld ?_
          (try simp only [List.getElem_toArray]); (try simp only [List.getElem_cons_succ]); (try simp only [List.getElem_cons_zero]); (try simp only [Act.put]); (try simp only [List.setIfInBounds_toArray]); (try simp only [List.set_cons_succ]); (try simp only [List.set_cons_zero])
          refine wpAnyH_take (i := 11) (v := undef) rfl (by kernel_rfl) (by kernel_rfl) (by kernel_rfl) (fun _ _ _ h => h) (Or.inr ⟨by rfl, rfl⟩) hHeld ?_
          (try simp only [List.getElem_toArray]); (try simp only [List.getElem_cons_succ]); (try simp only [List.getElem_cons_zero]); (try simp only [Act.put]); (try simp only [List.setIfInBounds_toArray]); (try simp only [List.set_cons_succ]); (try simp only [List.set_cons_zero])
          refine wpAnyH_take (i := 12) (v := undef) rfl (by kernel_rfl) (by kernel_rfl) (by kernel_rfl) (fun _ _ _ h => h) (Or.inr ⟨by rfl, rfl⟩) hHeld ?_
          (try simp only [List.getElem_toArray]); (try simp only [List.getElem_cons_succ]); (try simp only [List.getElem_cons_zero]); (try simp only [Act.put]); (try simp only [List.setIfInBounds_toArray]); (try simp only [List.set_cons_succ]); (try simp only [List.set_cons_zero])
          refine wpAnyH_take (i := 13) (v := ?v37) rfl (by kernel_rfl) (by kernel_rfl) (by kernel_rfl) (fun _ _ _ h => h) (Or.inl ⟨by rfl, ?hy37⟩) hHeld ?rest37
          case hy37 => (intro w hSw; (try dsimp only at hSw); (try go_split_ands); go_simp; first | done | with_reducible rfl)
          (try simp only [List.getElem_toArray]); (try simp only [List.getElem_cons_succ]); (try simp only [List.getElem_cons_zero]); (try simp only [Act.put]); (try simp only [List.setIfInBounds_toArray]); (try simp only [List.set_cons_succ]); (try simp only [List.set_cons_zero])
          refine wpAnyH_take (i := 14) (v := ?v38) rfl (by kernel_rfl) (by kernel_rfl) (by kernel_rfl) (fun _ _ _ h => h) (Or.inl ⟨by rfl, ?hy38⟩) hHeld ?rest38
          case hy38 => (intro w hSw; (try dsimp only at hSw); (try go_split_ands); go_simp; first | done | with_reducible rfl)
          (try simp only [List.getElem_toArray]); (try simp only [List.getElem_cons_succ]); (try simp only [List.getElem_cons_zero]); (try simp only [Act.put]); (try simp only [List.setIfInBounds_toArray]); (try simp only [List.set_cons_succ]); (try simp only [List.set_cons_zero])
          refine wpAnyH_done (by kernel_rfl) ?_ _
          obtain ⟨n0, n1, n2, n3, n4, n5, n6, n7⟩ := cells8 (S5.out.at 2 rfl)
          have fn := fun j => Lib.frozen_of_heap (S5.out.at 2 rfl) j
          have hcv := run_str (P := Try.prog) 66 9 5 Try.underlying66 Try.underlying5 Try.underlying9 HBV.out
          go_upto_region 11 with (fail)
          refine code_set1 (S5.out.at 2 rfl) ?_
          intro W6 hb hg hs hn
          clear n0 n1 n2 n3 n4 n5 n6 n7 fn hcv
          have hn2 : W6.heap[W2.heap.size]? = some (.cells #[.int .i64 n.kind, .int .i64 n.mode, .int .i64 n.owner, .int .i64 n.links, .int .i64 n.opn, .int .i64 n.up, .string (bs b), .slice aon n.names.length cpn] 59 (0, 0)) := hn
          have S6 := Lib.hid (S5.out.set 2 rfl hb hg hs hn2)
          clear hb hg hs hn hn2
          have h_d := (S6.out.at 0 rfl)
          have h_n := (S6.out.at 2 rfl)
          go_wp2_with (first | (refine wpList_load_row rfl 24 _ rfl _ rfl 24 _ (0, 0) _ h_d Try.underlying24 rfl (by kernel_rfl) ?_) | (refine wpList_load_row rfl 59 _ rfl _ rfl 59 _ (0, 0) _ h_n Try.underlying59 rfl (by kernel_rfl) ?_))
          refine (set_g _ l most room i (dataN n b) _ (.slice aon n.names.length cpn) W6 S6.out.oldX (S6.out.g 0 rfl) (Nat.le_trans HSm.out.1 (by decide)) ((S6.out.n 0 rfl).same (m := dataN n b) rfl) hnm).mono ?_
          rintro e W7 ⟨ao2, cp2, rfl, hg2, hb⟩
          clear h_d h_n
          have S7 := Lib.hid ((S6.out.call hb).addG hg2)
          clear hb hg2
          have h_r := (S7.out.at 1 rfl)
          go_wp2_with (first | (refine wpList_store_row rfl 24 _ _ rfl _ rfl rfl h_r rfl (by kernel_rfl) rfl ?_; intro W8 hb hg hs hn; have S8 := Lib.hid (S7.out.set 1 rfl hb hg hs hn); clear hb hg hs hn))
          refine bodyPost_ret (HRET.out _ _ _ (S8.out.at 1 rfl) rfl _ rfl) rfl ?_
          rw [HR.out]
          exact ⟨_, _, rfl, S8.out.gX 1 rfl, S8.out.bel⟩
  · have qh01 : (f == 0) = false := by simpa using h0
    have qh02 : (f != 0) = true := by simpa using h0
    have qh03 : decide (f = 0) = false := by simpa using h0
    have HR : Hid (editL l room i num M = (l, f)) := Lib.hid (by unfold editL; rw [← HF.out, if_pos h0])
    clear h0
    have h_r := (S3.out.at 1 rfl)
    have h_d := (S3.out.at 0 rfl)
    go_wp2_with (first | (refine wpList_load_row rfl 24 _ rfl _ rfl 24 _ (0, 0) _ h_d Try.underlying24 rfl (by kernel_rfl) ?_) | (refine wpList_store_row rfl 24 _ _ rfl _ rfl rfl h_r rfl (by kernel_rfl) rfl ?_; intro W4 hb hg hs hn; have S4 := Lib.hid (S3.out.set 1 rfl hb hg hs hn); clear hb hg hs hn))
    refine bodyPost_ret (HRET.out _ _ _ (S4.out.at 1 rfl) rfl _ rfl) rfl ?_
    rw [HR.out]
    exact ⟨_, _, rfl, S4.out.gX 0 rfl, S4.out.bel⟩
set_option maxRecDepth 100000 in
set_option maxHeartbeats 4000000 in
theorem pedit_w (X : Nat → Prop) (l : List NodeL) (most room i num : Int) (M : Option Nm) (ao : Option Addr) (cap bS bA : Nat) (w : World) (hX : Old X w) (hg : GivesX X l (.slice ao l.length cap) w) (hs : Small l)
    (hM : fileE l i = 0 → 0 ≤ num → ∀ W, Below w.heap.size w W → Calls Try.prog 28 #[.string (bs (getL l i).data), .pointer (some ⟨bS, 0, none⟩), .pointer (some ⟨bA, 0, none⟩)] W fun e w' => MadeIs M e W w') (hMl : ∀ b, M = some b → b.length ≤ 100000) :
    Calls Try.prog 27 #[diskV ao l.length cap most room, .int .i64 i, .int .i64 num, .func (.func 28) #[] #[.pointer (some ⟨bS, 0, none⟩), .pointer (some ⟨bA, 0, none⟩)]] w fun e w' => ChgX X (editL l room i num M).1 (editL l room i num M).2 most room e w w' := by
  have S0 := Lib.hid (St.start (G := [(l, .slice ao l.length cap)]) (N := []) hX (one_g hg) no_n)
  have HRET : Hid (∀ (W : World) (cs : Array Value) (fr), W.heap[w.heap.size + 1]? = some (.cells cs 24 fr) → cs.size = 3 → ∀ tmps : Array Value, tmps.getD 8 undef = .pointer (some ⟨w.heap.size + 1, 0, none⟩) → (results Try.f27 tmps).run Try.prog W = .ok (.tuple #[.agg cs, tmps.getD 9 undef]) W) := Lib.hid fun W cs fr h hs tmps ht =>
  results_ct (p := 8) (u := 9) (ty := 24) rfl tmps W (w.heap.size + 1) _ cs fr _ ht h Try.underlying24 rfl (by rw [hs]; kernel_rfl)
  have HSm := Lib.hid hs
  have HD := Lib.hid (data_small hs i)
  have HNm := Lib.hid (get_names hs i)
  have HB := Lib.hid (small_bytes hs)
  have HM := Lib.hid hM
  have HMl := Lib.hid hMl
  clear hX hg hs hM hMl
  go_enter Try.func27, Try.ntmps27
  go_upto_region 1 with (fail)
  refine code_fresh2 ?_
  intro W1 hb hA0 hA1 hs
  have S1 := Lib.hid (S0.out.new2 hb hA0 hA1)
  clear hb hA0 hA1 hs
  obtain ⟨d0, d1, d2⟩ := cells3 (S1.out.at 0 rfl)
  go_wp2_with fail
  refine (pfile_c _ l most room i _ _ W1 S1.out.oldX (S1.out.g 0 rfl) (Nat.le_trans HSm.out.1 (by decide)) (small_names HSm.out)).mono ?_
  rintro e W2 ⟨aon, cpn, rfl, hn1, hb⟩
  clear d0 d1 d2
  have S2 := Lib.hid ((S1.out.call hb).addN hn1)
  clear hb hn1
  obtain ⟨n, hn⟩ : ∃ n, n = fileN l i := ⟨_, rfl⟩
  obtain ⟨f, hf⟩ : ∃ f, f = fileE l i := ⟨_, rfl⟩
  rw [← hn] at S2 ⊢
  rw [← hf]
  have HN := Lib.hid hn
  have HF := Lib.hid hf
  clear hn hf
  go_upto_region 2 with (fail)
  refine code_fresh1 ?_
  intro W3 hb hA0 hs
  have S3 := Lib.hid (S2.out.new1 hb hA0)
  clear hb hA0 hs
  by_cases h0 : f = 0
  · subst h0
    replace HN := Lib.hid (HN.out.trans (fileN_ok HF.out.symm))
    have hnl := HD.out
    have hnm := HNm.out
    rw [← HN.out] at hnl hnm
    have HR0 : Hid (editL l room i num M = if num < 0 then (l, 1) else match M with | none => (l, 10) | some b => keptL l room i b) := Lib.hid (by unfold editL; rw [← HF.out, if_neg (by simp)])
    by_cases ha : num < 0
    · have i1 : decide (num < 0) = true := decide_eq_true ha
      have HR := Lib.hid (HR0.out.trans (if_pos ha))
      clear ha
      have h_r := (S3.out.at 1 rfl)
      have h_d := (S3.out.at 0 rfl)
      go_wp2_with (first | (refine wpList_load_row rfl 24 _ rfl _ rfl 24 _ (0, 0) _ h_d Try.underlying24 rfl (by kernel_rfl) ?_) | (refine wpList_store_row rfl 24 _ _ rfl _ rfl rfl h_r rfl (by kernel_rfl) rfl ?_; intro W4 hb hg hs hn; have S4 := Lib.hid (S3.out.set 1 rfl hb hg hs hn); clear hb hg hs hn))
      refine bodyPost_ret (HRET.out _ _ _ (S4.out.at 1 rfl) rfl _ rfl) rfl ?_
      rw [HR.out]
      exact ⟨_, _, rfl, S4.out.gX 0 rfl, S4.out.bel⟩
    · have i1 : decide (num < 0) = false := decide_eq_false ha
      replace HR0 := Lib.hid (HR0.out.trans (if_neg ha))
      replace HM := Lib.hid (HM.out HF.out.symm (by omega))
      rw [← HN.out] at HM
      clear ha
      cases M with
      | none =>
        have HR := HR0
        obtain ⟨-, -, -, -, -, -, n6, -⟩ := cells8 (S3.out.at 2 rfl)
        go_wp2_with fail
        refine (HM.out _ S3.out.bel).mono ?_
        rintro e W4 ⟨aob, cpb, rfl, hbv, hb⟩
        clear n6
        have S4 := Lib.hid (S3.out.call hb)
        have HBV := Lib.hid hbv
        clear hbv
        clear hb
        have w1 : IntKind.i64.wrap ((0 : Int) - (n.data.length : Int)) = (0 : Int) - (n.data.length : Int) := Go.IntWalk.i64_in _ (by omega)
        have w2 : IntKind.i64.wrap (-(n.data.length : Int)) = -(n.data.length : Int) := Go.IntWalk.i64_in _ (by omega)
        obtain ⟨-, -, -, -, -, -, n6, -⟩ := cells8 (S4.out.at 2 rfl)
        go_upto_region 8 with (fail)
        clear n6
        have h_d := (S4.out.at 0 rfl)
        refine wp_region_held_drew (S := fun W => W.heap[w.heap.size]? = some (.cells #[.slice ao l.length cap, .int .i64 most, .int .i64 room] 24 (0, 0)) ∧ True) (by kernel_rfl) ⟨(S4.out.at 0 rfl), trivial⟩ (fun hHeld => ?_)
        clear h_d
        have S5 := Lib.hid (S4.out.call (Below.refl W4.heap.size W4).drew)
        generalize W4.drew = W5 at *
        refine wpAnyH_take (i := 0) (v := ?v39) rfl (by kernel_rfl) (by kernel_rfl) (by kernel_rfl) (fun _ _ _ h => h) (Or.inl ⟨by rfl, ?hy39⟩) hHeld ?rest39
        case hy39 => (intro w hSw; (try dsimp only at hSw); (try go_split_ands); go_simp; first | done | with_reducible rfl)
        (try simp only [List.getElem_toArray]); (try simp only [List.getElem_cons_succ]); (try simp only [List.getElem_cons_zero]); (try simp only [Act.put]); (try simp only [List.setIfInBounds_toArray]); (try simp only [List.set_cons_succ]); (try simp only [List.set_cons_zero])
        refine wpAnyH_take (i := 1) (v := ?v40) rfl (by kernel_rfl) (by kernel_rfl) (by kernel_rfl) (fun _ _ _ h => h) (Or.inl ⟨by rfl, ?hy40⟩) hHeld ?rest40
        case hy40 => (intro w hSw; (try dsimp only at hSw); (try go_split_ands); go_simp; first | done | with_reducible rfl)
        (try simp only [List.getElem_toArray]); (try simp only [List.getElem_cons_succ]); (try simp only [List.getElem_cons_zero]); (try simp only [Act.put]); (try simp only [List.setIfInBounds_toArray]); (try simp only [List.set_cons_succ]); (try simp only [List.set_cons_zero])
        refine wpAnyH_take (i := 2) (v := ?v41) rfl (by kernel_rfl) (by kernel_rfl) (by kernel_rfl) (fun _ _ _ h => h) (Or.inl ⟨by rfl, ?hy41⟩) hHeld ?rest41
        case hy41 => (intro w hSw; (try dsimp only at hSw); (try go_split_ands); go_simp; first | done | with_reducible rfl)
        (try simp only [List.getElem_toArray]); (try simp only [List.getElem_cons_succ]); (try simp only [List.getElem_cons_zero]); (try simp only [Act.put]); (try simp only [List.setIfInBounds_toArray]); (try simp only [List.set_cons_succ]); (try simp only [List.set_cons_zero])
        refine wpAnyH_take (i := 3) (v := undef) rfl (by kernel_rfl) (by kernel_rfl) (by kernel_rfl) (fun _ _ _ h => h) (Or.inr ⟨by rfl, rfl⟩) hHeld ?_
        (try simp only [List.getElem_toArray]); (try simp only [List.getElem_cons_succ]); (try simp only [List.getElem_cons_zero]); (try simp only [Act.put]); (try simp only [List.setIfInBounds_toArray]); (try simp only [List.set_cons_succ]); (try simp only [List.set_cons_zero])
        refine wpAnyH_take (i := 4) (v := undef) rfl (by kernel_rfl) (by kernel_rfl) (by kernel_rfl) (fun _ _ _ h => h) (Or.inr ⟨by rfl, rfl⟩) hHeld ?_
        (try simp only [List.getElem_toArray]); (try simp only [List.getElem_cons_succ]); (try simp only [List.getElem_cons_zero]); (try simp only [Act.put]); (try simp only [List.setIfInBounds_toArray]); (try simp only [List.set_cons_succ]); (try simp only [List.set_cons_zero])
        refine wpAnyH_take (i := 5) (v := undef) rfl (by kernel_rfl) (by kernel_rfl) (by kernel_rfl) (fun _ _ _ h => h) (Or.inr ⟨by rfl, rfl⟩) hHeld ?_
        (try simp only [List.getElem_toArray]); (try simp only [List.getElem_cons_succ]); (try simp only [List.getElem_cons_zero]); (try simp only [Act.put]); (try simp only [List.setIfInBounds_toArray]); (try simp only [List.set_cons_succ]); (try simp only [List.set_cons_zero])
        refine wpAnyH_take (i := 6) (v := undef) rfl (by kernel_rfl) (by kernel_rfl) (by kernel_rfl) (fun _ _ _ h => h) (Or.inr ⟨by rfl, rfl⟩) hHeld ?_
        (try simp only [List.getElem_toArray]); (try simp only [List.getElem_cons_succ]); (try simp only [List.getElem_cons_zero]); (try simp only [Act.put]); (try simp only [List.setIfInBounds_toArray]); (try simp only [List.set_cons_succ]); (try simp only [List.set_cons_zero])
        refine wpAnyH_take (i := 7) (v := undef) rfl (by kernel_rfl) (by kernel_rfl) (by kernel_rfl) (fun _ _ _ h => h) (Or.inr ⟨by rfl, rfl⟩) hHeld ?_
        (try simp only [List.getElem_toArray]); (try simp only [List.getElem_cons_succ]); (try simp only [List.getElem_cons_zero]); (try simp only [Act.put]); (try simp only [List.setIfInBounds_toArray]); (try simp only [List.set_cons_succ]); (try simp only [List.set_cons_zero])
        refine wpAnyH_take (i := 8) (v := undef) rfl (by kernel_rfl) (by kernel_rfl) (by kernel_rfl) (fun _ _ _ h => h) (Or.inr ⟨by rfl, rfl⟩) hHeld ?_
        (try simp only [List.getElem_toArray]); (try simp only [List.getElem_cons_succ]); (try simp only [List.getElem_cons_zero]); (try simp only [Act.put]); (try simp only [List.setIfInBounds_toArray]); (try simp only [List.set_cons_succ]); (try simp only [List.set_cons_zero])
        refine wpAnyH_take (i := 9) (v := undef) rfl (by kernel_rfl) (by kernel_rfl) (by kernel_rfl) (fun _ _ _ h => h) (Or.inr ⟨by rfl, rfl⟩) hHeld ?_
        (try simp only [List.getElem_toArray]); (try simp only [List.getElem_cons_succ]); (try simp only [List.getElem_cons_zero]); (try simp only [Act.put]); (try simp only [List.setIfInBounds_toArray]); (try simp only [List.set_cons_succ]); (try simp only [List.set_cons_zero])
        refine wpAnyH_take (i := 10) (v := undef) rfl (by kernel_rfl) (by kernel_rfl) (by kernel_rfl) (fun _ _ _ h => h) (Or.inr ⟨by rfl, rfl⟩) hHeld ?_
        (try simp only [List.getElem_toArray]); (try simp only [List.getElem_cons_succ]); (try simp only [List.getElem_cons_zero]); (try simp only [Act.put]); (try simp only [List.setIfInBounds_toArray]); (try simp only [List.set_cons_succ]); (try simp only [List.set_cons_zero])
        refine wpAnyH_take (i := 11) (v := undef) rfl (by kernel_rfl) (by kernel_rfl) (by kernel_rfl) (fun _ _ _ h => h) (Or.inr ⟨by rfl, rfl⟩) hHeld ?_
        (try simp only [List.getElem_toArray]); (try simp only [List.getElem_cons_succ]); (try simp only [List.getElem_cons_zero]); (try simp only [Act.put]); (try simp only [List.setIfInBounds_toArray]); (try simp only [List.set_cons_succ]); (try simp only [List.set_cons_zero])
        refine wpAnyH_take (i := 12) (v := undef) rfl (by kernel_rfl) (by kernel_rfl) (by kernel_rfl) (fun _ _ _ h => h) (Or.inr ⟨by rfl, rfl⟩) hHeld ?_
        (try simp only [List.getElem_toArray]); (try simp only [List.getElem_cons_succ]); (try simp only [List.getElem_cons_zero]); (try simp only [Act.put]); (try simp only [List.setIfInBounds_toArray]); (try simp only [List.set_cons_succ]); (try simp only [List.set_cons_zero])
        refine wpAnyH_take (i := 13) (v := undef) rfl (by kernel_rfl) (by kernel_rfl) (by kernel_rfl) (fun _ _ _ h => h) (Or.inr ⟨by rfl, rfl⟩) hHeld ?_
        (try simp only [List.getElem_toArray]); (try simp only [List.getElem_cons_succ]); (try simp only [List.getElem_cons_zero]); (try simp only [Act.put]); (try simp only [List.setIfInBounds_toArray]); (try simp only [List.set_cons_succ]); (try simp only [List.set_cons_zero])
        refine wpAnyH_take (i := 14) (v := ?v42) rfl (by kernel_rfl) (by kernel_rfl) (by kernel_rfl) (fun _ _ _ h => h) (Or.inl ⟨by rfl, ?hy42⟩) hHeld ?rest42
        case hy42 => (intro w hSw; (try dsimp only at hSw); (try go_split_ands); go_simp; first | done | with_reducible rfl)
        (try simp only [List.getElem_toArray]); (try simp only [List.getElem_cons_succ]); (try simp only [List.getElem_cons_zero]); (try simp only [Act.put]); (try simp only [List.setIfInBounds_toArray]); (try simp only [List.set_cons_succ]); (try simp only [List.set_cons_zero])
        refine wpAnyH_done (by kernel_rfl) ?_ _
        have h_r := (S5.out.at 1 rfl)
        have h_d := (S5.out.at 0 rfl)
        go_wp2_with (first | (refine wpList_load_row rfl 24 _ rfl _ rfl 24 _ (0, 0) _ h_d Try.underlying24 rfl (by kernel_rfl) ?_) | (refine wpList_store_row rfl 24 _ _ rfl _ rfl rfl h_r rfl (by kernel_rfl) rfl ?_; intro W6 hb hg hs hn; have S6 := Lib.hid (S5.out.set 1 rfl hb hg hs hn); clear hb hg hs hn))
        refine bodyPost_ret (HRET.out _ _ _ (S6.out.at 1 rfl) rfl _ rfl) rfl ?_
        rw [HR.out]
        exact ⟨_, _, rfl, S6.out.gX 0 rfl, S6.out.bel⟩
      | some b =>
        replace HR0 := Lib.hid (HR0.out.trans (kept_N l room i b))
        rw [← HN.out] at HR0
        have hbl := HMl.out b rfl
        obtain ⟨-, -, -, -, -, -, n6, -⟩ := cells8 (S3.out.at 2 rfl)
        go_wp2_with fail
        refine (HM.out _ S3.out.bel).mono ?_
        rintro e W4 ⟨aob, cpb, rfl, hbv, hb⟩
        clear n6
        have S4 := Lib.hid (S3.out.call hb)
        have HBV := Lib.hid hbv
        clear hbv
        clear hb
        have w1 : IntKind.i64.wrap ((b.length : Int) - (n.data.length : Int)) = (b.length : Int) - (n.data.length : Int) := Go.IntWalk.i64_in _ (by omega)
        obtain ⟨-, -, -, -, -, -, n6, -⟩ := cells8 (S4.out.at 2 rfl)
        go_upto_region 8 with (fail)
        clear n6
        by_cases h1 : n.data.length < b.length
        · have i2 : decide ((0 : Int) < (b.length : Int) - (n.data.length : Int)) = true := decide_eq_true (by omega)
          have i3 : decide ((n.data.length : Int) < (b.length : Int)) = true := decide_eq_true (by omega)
          have i31 : decide (n.data.length < b.length) = true := decide_eq_true h1
          have w2 : IntKind.i64.wrap ((bytesL l : Int) + ((b.length : Int) - (n.data.length : Int))) = (bytesL l : Int) + ((b.length : Int) - (n.data.length : Int)) := Go.IntWalk.i64_in _ (by have := HB.out; omega)
          by_cases h2 : room < (bytesL l : Int) + ((b.length : Int) - (n.data.length : Int))
          · have i4 : decide (room < (bytesL l : Int) + ((b.length : Int) - (n.data.length : Int))) = true := decide_eq_true h2
            have HR : Hid (editL l room i num (some b) = (l, 10)) := Lib.hid (HR0.out.trans (if_pos ⟨h1, by omega⟩))
            clear h1 h2
            have HBV2 : Hid (BytesV b (.slice aob b.length cpb) W4.drew) := Lib.hid (bytesV_keep HBV.out (Below.refl _ W4).drew)
            clear HBV
            have h_d := (S4.out.at 0 rfl)
            refine wp_region_held_drew (S := fun W => W.heap[w.heap.size]? = some (.cells #[.slice ao l.length cap, .int .i64 most, .int .i64 room] 24 (0, 0)) ∧ W.cell? ⟨w.heap.size, 2, none⟩ = some (.int .i64 room) ∧ True) (by kernel_rfl) ⟨(S4.out.at 0 rfl), (cells3 (S4.out.at 0 rfl)).2.2, trivial⟩ (fun hHeld => ?_)
            clear h_d
            have S5 := Lib.hid (S4.out.call (Below.refl W4.heap.size W4).drew)
            generalize W4.drew = W5 at *
            have HBV := HBV2
            clear HBV2
            refine wpAnyH_take (i := 0) (v := ?v43) rfl (by kernel_rfl) (by kernel_rfl) (by kernel_rfl) (fun _ _ _ h => h) (Or.inl ⟨by rfl, ?hy43⟩) hHeld ?rest43
            case hy43 => (intro w hSw; (try dsimp only at hSw); (try go_split_ands); go_simp; first | done | with_reducible rfl)
            (try simp only [List.getElem_toArray]); (try simp only [List.getElem_cons_succ]); (try simp only [List.getElem_cons_zero]); (try simp only [Act.put]); (try simp only [List.setIfInBounds_toArray]); (try simp only [List.set_cons_succ]); (try simp only [List.set_cons_zero])
            refine wpAnyH_take (i := 1) (v := ?v44) rfl (by kernel_rfl) (by kernel_rfl) (by kernel_rfl) (fun _ _ _ h => h) (Or.inl ⟨by rfl, ?hy44⟩) hHeld ?rest44
            case hy44 => (intro w hSw; (try dsimp only at hSw); (try go_split_ands); go_simp; first | done | with_reducible rfl)
            (try simp only [List.getElem_toArray]); (try simp only [List.getElem_cons_succ]); (try simp only [List.getElem_cons_zero]); (try simp only [Act.put]); (try simp only [List.setIfInBounds_toArray]); (try simp only [List.set_cons_succ]); (try simp only [List.set_cons_zero])
            refine wpAnyH_take (i := 2) (v := ?v45) rfl (by kernel_rfl) (by kernel_rfl) (by kernel_rfl) (fun _ _ _ h => h) (Or.inl ⟨by rfl, ?hy45⟩) hHeld ?rest45
            case hy45 => (intro w hSw; (try dsimp only at hSw); (try go_split_ands); go_simp; first | done | with_reducible rfl)
            (try simp only [List.getElem_toArray]); (try simp only [List.getElem_cons_succ]); (try simp only [List.getElem_cons_zero]); (try simp only [Act.put]); (try simp only [List.setIfInBounds_toArray]); (try simp only [List.set_cons_succ]); (try simp only [List.set_cons_zero])
            refine wpAnyH_take (i := 3) (v := ?v46) rfl (by kernel_rfl) (by kernel_rfl) (by kernel_rfl) (fun _ _ _ h => h) (Or.inl ⟨by rfl, ?hy46⟩) hHeld ?rest46
            case hy46 => (intro w hSw; (try dsimp only at hSw); (try go_split_ands); go_simp; first | done | with_reducible rfl)
            (try simp only [List.getElem_toArray]); (try simp only [List.getElem_cons_succ]); (try simp only [List.getElem_cons_zero]); (try simp only [Act.put]); (try simp only [List.setIfInBounds_toArray]); (try simp only [List.set_cons_succ]); (try simp only [List.set_cons_zero])
            refine wpAnyH_take (i := 4) (v := ?v47) rfl (by kernel_rfl) (by kernel_rfl) (by kernel_rfl) (fun _ _ _ h => h) (Or.inl ⟨by rfl, ?hy47⟩) hHeld ?rest47
            case hy47 => (intro w hSw; (try dsimp only at hSw); (try go_split_ands); go_simp; first | done | with_reducible rfl)
            (try simp only [List.getElem_toArray]); (try simp only [List.getElem_cons_succ]); (try simp only [List.getElem_cons_zero]); (try simp only [Act.put]); (try simp only [List.setIfInBounds_toArray]); (try simp only [List.set_cons_succ]); (try simp only [List.set_cons_zero])
            refine wpAnyH_take (i := 5) (v := ?v48) rfl (by kernel_rfl) (by kernel_rfl) (by kernel_rfl) (fun _ _ _ h => h) (Or.inl ⟨by rfl, ?hy48⟩) hHeld ?rest48
            case hy48 => (intro w hSw; (try dsimp only at hSw); (try go_split_ands); go_simp; first | done | with_reducible rfl)
            (try simp only [List.getElem_toArray]); (try simp only [List.getElem_cons_succ]); (try simp only [List.getElem_cons_zero]); (try simp only [Act.put]); (try simp only [List.setIfInBounds_toArray]); (try simp only [List.set_cons_succ]); (try simp only [List.set_cons_zero])
            refine wpAnyH_take (i := 6) rfl (by kernel_rfl) (by kernel_rfl) (by kernel_rfl) (fun _ _ _ h => h) (yieldsIf_load_row (by rfl) 24 _ rfl _ rfl 24 _ (0, 0) _ (fun _ h => h.1) Try.underlying24 rfl (by kernel_rfl)) hHeld ?_
            (try simp only [List.getElem_toArray]); (try simp only [List.getElem_cons_succ]); (try simp only [List.getElem_cons_zero]); (try simp only [Act.put]); (try simp only [List.setIfInBounds_toArray]); (try simp only [List.set_cons_succ]); (try simp only [List.set_cons_zero])
            refine wpAnyH_take (i := 8) (v := ?v49) rfl (by kernel_rfl) (by kernel_rfl) (by kernel_rfl) (fun _ _ _ h => h) (Or.inl ⟨by rfl, ?hy49⟩) hHeld ?rest49
            case hy49 => (intro w hSw; (try dsimp only at hSw); (try go_split_ands); go_simp; first | done | with_reducible rfl)
            (try simp only [List.getElem_toArray]); (try simp only [List.getElem_cons_succ]); (try simp only [List.getElem_cons_zero]); (try simp only [Act.put]); (try simp only [List.setIfInBounds_toArray]); (try simp only [List.set_cons_succ]); (try simp only [List.set_cons_zero])
            refine wpAnyH_take (i := 10) (v := ?v50) rfl (by kernel_rfl) (by kernel_rfl) (by kernel_rfl) (fun _ _ _ h => h) (Or.inl ⟨by rfl, ?hy50⟩) hHeld ?rest50
            case hy50 => (intro w hSw; (try dsimp only at hSw); (try go_split_ands); go_simp; first | done | with_reducible rfl)
            (try simp only [List.getElem_toArray]); (try simp only [List.getElem_cons_succ]); (try simp only [List.getElem_cons_zero]); (try simp only [Act.put]); (try simp only [List.setIfInBounds_toArray]); (try simp only [List.set_cons_succ]); (try simp only [List.set_cons_zero])
            refine wpAnyH_take (i := 11) (v := ?v51) rfl (by kernel_rfl) (by kernel_rfl) (by kernel_rfl) (fun _ _ _ h => h) (Or.inl ⟨by rfl, ?hy51⟩) hHeld ?rest51
            case hy51 => (intro w hSw; (try dsimp only at hSw); (try go_split_ands); go_simp; first | done | with_reducible rfl)
            (try simp only [List.getElem_toArray]); (try simp only [List.getElem_cons_succ]); (try simp only [List.getElem_cons_zero]); (try simp only [Act.put]); (try simp only [List.setIfInBounds_toArray]); (try simp only [List.set_cons_succ]); (try simp only [List.set_cons_zero])
            refine wpAnyH_ready (rs := [7]) (by kernel_rfl) (by simp) ?_
            refine AllReadyH.cons rfl (fun K hK => ?_) AllReadyH.nil
            go_simp
            refine (pbytes_c l most room HSm.out _ W5 (S5.out.g 0 rfl).gives).mono ?_
            rintro e W6 ⟨rfl, hb⟩
            have S6 := Lib.hid (S5.out.call hb)
            replace HBV := Lib.hid (bytesV_keep HBV.out hb)
            clear hb hHeld
            go_wp2_with fail
            refine hK.out _ _ ⟨(S6.out.at 0 rfl), (cells3 (S6.out.at 0 rfl)).2.2, trivial⟩ (fun hHeld => ?_)
            clear hK K
            (try simp only [List.getElem_toArray]); (try simp only [List.getElem_cons_succ]); (try simp only [List.getElem_cons_zero]); (try simp only [Act.put]); (try simp only [List.setIfInBounds_toArray]); (try simp only [List.set_cons_succ]); (try simp only [List.set_cons_zero])
            refine wpAnyH_take (i := 9) (v := ?v52) rfl (by kernel_rfl) (by kernel_rfl) (by kernel_rfl) (fun _ _ _ h => h) (Or.inl ⟨by rfl, ?hy52⟩) hHeld ?rest52
            case hy52 => (intro w hSw; (try dsimp only at hSw); (try go_split_ands); go_simp; first | done | with_reducible rfl)
            (try simp only [List.getElem_toArray]); (try simp only [List.getElem_cons_succ]); (try simp only [List.getElem_cons_zero]); (try simp only [Act.put]); (try simp only [List.setIfInBounds_toArray]); (try simp only [List.set_cons_succ]); (try simp only [List.set_cons_zero])
            refine wpAnyH_take (i := 12) (v := ?v53) rfl (by kernel_rfl) (by kernel_rfl) (by kernel_rfl) (fun _ _ _ h => h) (Or.inl ⟨by rfl, ?hy53⟩) hHeld ?rest53
            case hy53 => (intro w hSw; (try dsimp only at hSw); (try go_split_ands); go_simp; first | done | with_reducible rfl)
            (try simp only [List.getElem_toArray]); (try simp only [List.getElem_cons_succ]); (try simp only [List.getElem_cons_zero]); (try simp only [Act.put]); (try simp only [List.setIfInBounds_toArray]); (try simp only [List.set_cons_succ]); (try simp only [List.set_cons_zero])
            refine wpAnyH_take (i := 13) (v := ?v54) rfl (by kernel_rfl) (by kernel_rfl) (by kernel_rfl) (fun _ _ _ h => h) (Or.inl ⟨by rfl, ?hy54⟩) hHeld ?rest54
            case hy54 => (intro w hSw; (try dsimp only at hSw); (try go_split_ands); go_simp; first | done | with_reducible rfl)
            (try simp only [List.getElem_toArray]); (try simp only [List.getElem_cons_succ]); (try simp only [List.getElem_cons_zero]); (try simp only [Act.put]); (try simp only [List.setIfInBounds_toArray]); (try simp only [List.set_cons_succ]); (try simp only [List.set_cons_zero])
            refine wpAnyH_take (i := 14) (v := ?v55) rfl (by kernel_rfl) (by kernel_rfl) (by kernel_rfl) (fun _ _ _ h => h) (Or.inl ⟨by rfl, ?hy55⟩) hHeld ?rest55
            case hy55 => (intro w hSw; (try dsimp only at hSw); (try go_split_ands); go_simp; first | done | with_reducible rfl)
            (try simp only [List.getElem_toArray]); (try simp only [List.getElem_cons_succ]); (try simp only [List.getElem_cons_zero]); (try simp only [Act.put]); (try simp only [List.setIfInBounds_toArray]); (try simp only [List.set_cons_succ]); (try simp only [List.set_cons_zero])
            refine wpAnyH_done (by kernel_rfl) ?_ _
            have h_r := (S6.out.at 1 rfl)
            have h_d := (S6.out.at 0 rfl)
            go_wp2_with (first | (refine wpList_load_row rfl 24 _ rfl _ rfl 24 _ (0, 0) _ h_d Try.underlying24 rfl (by kernel_rfl) ?_) | (refine wpList_store_row rfl 24 _ _ rfl _ rfl rfl h_r rfl (by kernel_rfl) rfl ?_; intro W7 hb hg hs hn; have S7 := Lib.hid (S6.out.set 1 rfl hb hg hs hn); clear hb hg hs hn))
            refine bodyPost_ret (HRET.out _ _ _ (S7.out.at 1 rfl) rfl _ rfl) rfl ?_
            rw [HR.out]
            exact ⟨_, _, rfl, S7.out.gX 0 rfl, S7.out.bel⟩
          · have i4 : decide (room < (bytesL l : Int) + ((b.length : Int) - (n.data.length : Int))) = false := decide_eq_false h2
            have HR : Hid (editL l room i num (some b) = (setL l i (dataN n b), 0)) := Lib.hid (HR0.out.trans (if_neg fun h => h2 (by have := h.2; omega)))
            clear h1 h2
            have HBV2 : Hid (BytesV b (.slice aob b.length cpb) W4.drew) := Lib.hid (bytesV_keep HBV.out (Below.refl _ W4).drew)
            clear HBV
            have h_d := (S4.out.at 0 rfl)
            refine wp_region_held_drew (S := fun W => W.heap[w.heap.size]? = some (.cells #[.slice ao l.length cap, .int .i64 most, .int .i64 room] 24 (0, 0)) ∧ W.cell? ⟨w.heap.size, 2, none⟩ = some (.int .i64 room) ∧ True) (by kernel_rfl) ⟨(S4.out.at 0 rfl), (cells3 (S4.out.at 0 rfl)).2.2, trivial⟩ (fun hHeld => ?_)
            clear h_d
            have S5 := Lib.hid (S4.out.call (Below.refl W4.heap.size W4).drew)
            generalize W4.drew = W5 at *
            have HBV := HBV2
            clear HBV2
            refine wpAnyH_take (i := 0) (v := ?v56) rfl (by kernel_rfl) (by kernel_rfl) (by kernel_rfl) (fun _ _ _ h => h) (Or.inl ⟨by rfl, ?hy56⟩) hHeld ?rest56
            case hy56 => (intro w hSw; (try dsimp only at hSw); (try go_split_ands); go_simp; first | done | with_reducible rfl)
            (try simp only [List.getElem_toArray]); (try simp only [List.getElem_cons_succ]); (try simp only [List.getElem_cons_zero]); (try simp only [Act.put]); (try simp only [List.setIfInBounds_toArray]); (try simp only [List.set_cons_succ]); (try simp only [List.set_cons_zero])
            refine wpAnyH_take (i := 1) (v := ?v57) rfl (by kernel_rfl) (by kernel_rfl) (by kernel_rfl) (fun _ _ _ h => h) (Or.inl ⟨by rfl, ?hy57⟩) hHeld ?rest57
            case hy57 => (intro w hSw; (try dsimp only at hSw); (try go_split_ands); go_simp; first | done | with_reducible rfl)
            (try simp only [List.getElem_toArray]); (try simp only [List.getElem_cons_succ]); (try simp only [List.getElem_cons_zero]); (try simp only [Act.put]); (try simp only [List.setIfInBounds_toArray]); (try simp only [List.set_cons_succ]); (try simp only [List.set_cons_zero])
            refine wpAnyH_take (i := 2) (v := ?v58) rfl (by kernel_rfl) (by kernel_rfl) (by kernel_rfl) (fun _ _ _ h => h) (Or.inl ⟨by rfl, ?hy58⟩) hHeld ?rest58
            case hy58 => (intro w hSw; (try dsimp only at hSw); (try go_split_ands); go_simp; first | done | with_reducible rfl)
            (try simp only [List.getElem_toArray]); (try simp only [List.getElem_cons_succ]); (try simp only [List.getElem_cons_zero]); (try simp only [Act.put]); (try simp only [List.setIfInBounds_toArray]); (try simp only [List.set_cons_succ]); (try simp only [List.set_cons_zero])
            refine wpAnyH_take (i := 3) (v := ?v59) rfl (by kernel_rfl) (by kernel_rfl) (by kernel_rfl) (fun _ _ _ h => h) (Or.inl ⟨by rfl, ?hy59⟩) hHeld ?rest59
            case hy59 => (intro w hSw; (try dsimp only at hSw); (try go_split_ands); go_simp; first | done | with_reducible rfl)
            (try simp only [List.getElem_toArray]); (try simp only [List.getElem_cons_succ]); (try simp only [List.getElem_cons_zero]); (try simp only [Act.put]); (try simp only [List.setIfInBounds_toArray]); (try simp only [List.set_cons_succ]); (try simp only [List.set_cons_zero])
            refine wpAnyH_take (i := 4) (v := ?v60) rfl (by kernel_rfl) (by kernel_rfl) (by kernel_rfl) (fun _ _ _ h => h) (Or.inl ⟨by rfl, ?hy60⟩) hHeld ?rest60
            case hy60 => (intro w hSw; (try dsimp only at hSw); (try go_split_ands); go_simp; first | done | with_reducible rfl)
            (try simp only [List.getElem_toArray]); (try simp only [List.getElem_cons_succ]); (try simp only [List.getElem_cons_zero]); (try simp only [Act.put]); (try simp only [List.setIfInBounds_toArray]); (try simp only [List.set_cons_succ]); (try simp only [List.set_cons_zero])
            refine wpAnyH_take (i := 5) (v := ?v61) rfl (by kernel_rfl) (by kernel_rfl) (by kernel_rfl) (fun _ _ _ h => h) (Or.inl ⟨by rfl, ?hy61⟩) hHeld ?rest61
            case hy61 => (intro w hSw; (try dsimp only at hSw); (try go_split_ands); go_simp; first | done | with_reducible rfl)
            (try simp only [List.getElem_toArray]); (try simp only [List.getElem_cons_succ]); (try simp only [List.getElem_cons_zero]); (try simp only [Act.put]); (try simp only [List.setIfInBounds_toArray]); (try simp only [List.set_cons_succ]); (try simp only [List.set_cons_zero])
            refine wpAnyH_take (i := 6) rfl (by kernel_rfl) (by kernel_rfl) (by kernel_rfl) (fun _ _ _ h => h) (yieldsIf_load_row (by rfl) 24 _ rfl _ rfl 24 _ (0, 0) _ (fun _ h => h.1) Try.underlying24 rfl (by kernel_rfl)) hHeld ?_
            (try simp only [List.getElem_toArray]); (try simp only [List.getElem_cons_succ]); (try simp only [List.getElem_cons_zero]); (try simp only [Act.put]); (try simp only [List.setIfInBounds_toArray]); (try simp only [List.set_cons_succ]); (try simp only [List.set_cons_zero])
            refine wpAnyH_take (i := 8) (v := ?v62) rfl (by kernel_rfl) (by kernel_rfl) (by kernel_rfl) (fun _ _ _ h => h) (Or.inl ⟨by rfl, ?hy62⟩) hHeld ?rest62
            case hy62 => (intro w hSw; (try dsimp only at hSw); (try go_split_ands); go_simp; first | done | with_reducible rfl)
            (try simp only [List.getElem_toArray]); (try simp only [List.getElem_cons_succ]); (try simp only [List.getElem_cons_zero]); (try simp only [Act.put]); (try simp only [List.setIfInBounds_toArray]); (try simp only [List.set_cons_succ]); (try simp only [List.set_cons_zero])
            refine wpAnyH_take (i := 10) (v := ?v63) rfl (by kernel_rfl) (by kernel_rfl) (by kernel_rfl) (fun _ _ _ h => h) (Or.inl ⟨by rfl, ?hy63⟩) hHeld ?rest63
            case hy63 => (intro w hSw; (try dsimp only at hSw); (try go_split_ands); go_simp; first | done | with_reducible rfl)
            (try simp only [List.getElem_toArray]); (try simp only [List.getElem_cons_succ]); (try simp only [List.getElem_cons_zero]); (try simp only [Act.put]); (try simp only [List.setIfInBounds_toArray]); (try simp only [List.set_cons_succ]); (try simp only [List.set_cons_zero])
            refine wpAnyH_take (i := 11) (v := ?v64) rfl (by kernel_rfl) (by kernel_rfl) (by kernel_rfl) (fun _ _ _ h => h) (Or.inl ⟨by rfl, ?hy64⟩) hHeld ?rest64
            case hy64 => (intro w hSw; (try dsimp only at hSw); (try go_split_ands); go_simp; first | done | with_reducible rfl)
            (try simp only [List.getElem_toArray]); (try simp only [List.getElem_cons_succ]); (try simp only [List.getElem_cons_zero]); (try simp only [Act.put]); (try simp only [List.setIfInBounds_toArray]); (try simp only [List.set_cons_succ]); (try simp only [List.set_cons_zero])
            refine wpAnyH_ready (rs := [7]) (by kernel_rfl) (by simp) ?_
            refine AllReadyH.cons rfl (fun K hK => ?_) AllReadyH.nil
            go_simp
            refine (pbytes_c l most room HSm.out _ W5 (S5.out.g 0 rfl).gives).mono ?_
            rintro e W6 ⟨rfl, hb⟩
            have S6 := Lib.hid (S5.out.call hb)
            replace HBV := Lib.hid (bytesV_keep HBV.out hb)
            clear hb hHeld
            go_wp2_with fail
            refine hK.out _ _ ⟨(S6.out.at 0 rfl), (cells3 (S6.out.at 0 rfl)).2.2, trivial⟩ (fun hHeld => ?_)
            clear hK K
            (try simp only [List.getElem_toArray]); (try simp only [List.getElem_cons_succ]); (try simp only [List.getElem_cons_zero]); (try simp only [Act.put]); (try simp only [List.setIfInBounds_toArray]); (try simp only [List.set_cons_succ]); (try simp only [List.set_cons_zero])
            refine wpAnyH_take (i := 9) (v := ?v65) rfl (by kernel_rfl) (by kernel_rfl) (by kernel_rfl) (fun _ _ _ h => h) (Or.inl ⟨by rfl, ?hy65⟩) hHeld ?rest65
            case hy65 => (intro w hSw; (try dsimp only at hSw); (try go_split_ands); go_simp; first | done | with_reducible rfl)
            (try simp only [List.getElem_toArray]); (try simp only [List.getElem_cons_succ]); (try simp only [List.getElem_cons_zero]); (try simp only [Act.put]); (try simp only [List.setIfInBounds_toArray]); (try simp only [List.set_cons_succ]); (try simp only [List.set_cons_zero])
            refine wpAnyH_take (i := 12) (v := ?v66) rfl (by kernel_rfl) (by kernel_rfl) (by kernel_rfl) (fun _ _ _ h => h) (Or.inl ⟨by rfl, ?hy66⟩) hHeld ?rest66
            case hy66 => (intro w hSw; (try dsimp only at hSw); (try go_split_ands); go_simp; first | done | with_reducible rfl)
            (try simp only [List.getElem_toArray]); (try simp only [List.getElem_cons_succ]); (try simp only [List.getElem_cons_zero]); (try simp only [Act.put]); (try simp only [List.setIfInBounds_toArray]); (try simp only [List.set_cons_succ]); (try simp only [List.set_cons_zero])
            refine wpAnyH_take (i := 13) (v := ?v67) rfl (by kernel_rfl) (by kernel_rfl) (by kernel_rfl) (fun _ _ _ h => h) (Or.inl ⟨by rfl, ?hy67⟩) hHeld ?rest67
            case hy67 => (intro w hSw; (try dsimp only at hSw); (try go_split_ands); go_simp; first | done | with_reducible rfl)
            (try simp only [List.getElem_toArray]); (try simp only [List.getElem_cons_succ]); (try simp only [List.getElem_cons_zero]); (try simp only [Act.put]); (try simp only [List.setIfInBounds_toArray]); (try simp only [List.set_cons_succ]); (try simp only [List.set_cons_zero])
            refine wpAnyH_take (i := 14) (v := ?v68) rfl (by kernel_rfl) (by kernel_rfl) (by kernel_rfl) (fun _ _ _ h => h) (Or.inl ⟨by rfl, ?hy68⟩) hHeld ?rest68
            case hy68 => (intro w hSw; (try dsimp only at hSw); (try go_split_ands); go_simp; first | done | with_reducible rfl)
            (try simp only [List.getElem_toArray]); (try simp only [List.getElem_cons_succ]); (try simp only [List.getElem_cons_zero]); (try simp only [Act.put]); (try simp only [List.setIfInBounds_toArray]); (try simp only [List.set_cons_succ]); (try simp only [List.set_cons_zero])
            refine wpAnyH_done (by kernel_rfl) ?_ _
            obtain ⟨n0, n1, n2, n3, n4, n5, n6, n7⟩ := cells8 (S6.out.at 2 rfl)
            have fn := fun j => Lib.frozen_of_heap (S6.out.at 2 rfl) j
            have hcv := run_str (P := Try.prog) 66 9 5 Try.underlying66 Try.underlying5 Try.underlying9 HBV.out
            go_upto_region 11 with (fail)
            refine code_set1 (S6.out.at 2 rfl) ?_
            intro W7 hb hg hs hn
            clear n0 n1 n2 n3 n4 n5 n6 n7 fn hcv
            have hn2 : W7.heap[W2.heap.size]? = some (.cells #[.int .i64 n.kind, .int .i64 n.mode, .int .i64 n.owner, .int .i64 n.links, .int .i64 n.opn, .int .i64 n.up, .string (bs b), .slice aon n.names.length cpn] 59 (0, 0)) := hn
            have S7 := Lib.hid (S6.out.set 2 rfl hb hg hs hn2)
            clear hb hg hs hn hn2
            have h_d := (S7.out.at 0 rfl)
            have h_n := (S7.out.at 2 rfl)
            go_wp2_with (first | (refine wpList_load_row rfl 24 _ rfl _ rfl 24 _ (0, 0) _ h_d Try.underlying24 rfl (by kernel_rfl) ?_) | (refine wpList_load_row rfl 59 _ rfl _ rfl 59 _ (0, 0) _ h_n Try.underlying59 rfl (by kernel_rfl) ?_))
            refine (set_g _ l most room i (dataN n b) _ (.slice aon n.names.length cpn) W7 S7.out.oldX (S7.out.g 0 rfl) (Nat.le_trans HSm.out.1 (by decide)) ((S7.out.n 0 rfl).same (m := dataN n b) rfl) hnm).mono ?_
            rintro e W8 ⟨ao2, cp2, rfl, hg2, hb⟩
            clear h_d h_n
            have S8 := Lib.hid ((S7.out.call hb).addG hg2)
            clear hb hg2
            have h_r := (S8.out.at 1 rfl)
            go_wp2_with (first | (refine wpList_store_row rfl 24 _ _ rfl _ rfl rfl h_r rfl (by kernel_rfl) rfl ?_; intro W9 hb hg hs hn; have S9 := Lib.hid (S8.out.set 1 rfl hb hg hs hn); clear hb hg hs hn))
            refine bodyPost_ret (HRET.out _ _ _ (S9.out.at 1 rfl) rfl _ rfl) rfl ?_
            rw [HR.out]
            exact ⟨_, _, rfl, S9.out.gX 1 rfl, S9.out.bel⟩
        · have i2 : decide ((0 : Int) < (b.length : Int) - (n.data.length : Int)) = false := decide_eq_false (by omega)
          have i3 : decide ((n.data.length : Int) < (b.length : Int)) = false := decide_eq_false (by omega)
          have i31 : decide (n.data.length < b.length) = false := decide_eq_false h1
          have HR : Hid (editL l room i num (some b) = (setL l i (dataN n b), 0)) := Lib.hid (HR0.out.trans (if_neg fun h => h1 h.1))
          clear h1
          have HBV2 : Hid (BytesV b (.slice aob b.length cpb) W4.drew) := Lib.hid (bytesV_keep HBV.out (Below.refl _ W4).drew)
          clear HBV
          have h_d := (S4.out.at 0 rfl)
          refine wp_region_held_drew (S := fun W => W.heap[w.heap.size]? = some (.cells #[.slice ao l.length cap, .int .i64 most, .int .i64 room] 24 (0, 0)) ∧ W.cell? ⟨w.heap.size, 2, none⟩ = some (.int .i64 room) ∧ True) (by kernel_rfl) ⟨(S4.out.at 0 rfl), (cells3 (S4.out.at 0 rfl)).2.2, trivial⟩ (fun hHeld => ?_)
          clear h_d
          have S5 := Lib.hid (S4.out.call (Below.refl W4.heap.size W4).drew)
          generalize W4.drew = W5 at *
          have HBV := HBV2
          clear HBV2
          refine wpAnyH_take (i := 0) (v := ?v69) rfl (by kernel_rfl) (by kernel_rfl) (by kernel_rfl) (fun _ _ _ h => h) (Or.inl ⟨by rfl, ?hy69⟩) hHeld ?rest69
          case hy69 => (intro w hSw; (try dsimp only at hSw); (try go_split_ands); go_simp; first | done | with_reducible rfl)
          (try simp only [List.getElem_toArray]); (try simp only [List.getElem_cons_succ]); (try simp only [List.getElem_cons_zero]); (try simp only [Act.put]); (try simp only [List.setIfInBounds_toArray]); (try simp only [List.set_cons_succ]); (try simp only [List.set_cons_zero])
          refine wpAnyH_take (i := 1) (v := ?v70) rfl (by kernel_rfl) (by kernel_rfl) (by kernel_rfl) (fun _ _ _ h => h) (Or.inl ⟨by rfl, ?hy70⟩) hHeld ?rest70
          case hy70 => (intro w hSw; (try dsimp only at hSw); (try go_split_ands); go_simp; first | done | with_reducible rfl)
          (try simp only [List.getElem_toArray]); (try simp only [List.getElem_cons_succ]); (try simp only [List.getElem_cons_zero]); (try simp only [Act.put]); (try simp only [List.setIfInBounds_toArray]); (try simp only [List.set_cons_succ]); (try simp only [List.set_cons_zero])
          refine wpAnyH_take (i := 2) (v := ?v71) rfl (by kernel_rfl) (by kernel_rfl) (by kernel_rfl) (fun _ _ _ h => h) (Or.inl ⟨by rfl, ?hy71⟩) hHeld ?rest71
          case hy71 => (intro w hSw; (try dsimp only at hSw); (try go_split_ands); go_simp; first | done | with_reducible rfl)
          (try simp only [List.getElem_toArray]); (try simp only [List.getElem_cons_succ]); (try simp only [List.getElem_cons_zero]); (try simp only [Act.put]); (try simp only [List.setIfInBounds_toArray]); (try simp only [List.set_cons_succ]); (try simp only [List.set_cons_zero])
          refine wpAnyH_take (i := 3) (v := ?v72) rfl (by kernel_rfl) (by kernel_rfl) (by kernel_rfl) (fun _ _ _ h => h) (Or.inl ⟨by rfl, ?hy72⟩) hHeld ?rest72
          case hy72 => (intro w hSw; (try dsimp only at hSw); (try go_split_ands); go_simp; first | done | with_reducible rfl)
          (try simp only [List.getElem_toArray]); (try simp only [List.getElem_cons_succ]); (try simp only [List.getElem_cons_zero]); (try simp only [Act.put]); (try simp only [List.setIfInBounds_toArray]); (try simp only [List.set_cons_succ]); (try simp only [List.set_cons_zero])
          refine wpAnyH_take (i := 4) (v := ?v73) rfl (by kernel_rfl) (by kernel_rfl) (by kernel_rfl) (fun _ _ _ h => h) (Or.inl ⟨by rfl, ?hy73⟩) hHeld ?rest73
          case hy73 => (intro w hSw; (try dsimp only at hSw); (try go_split_ands); go_simp; first | done | with_reducible rfl)
          (try simp only [List.getElem_toArray]); (try simp only [List.getElem_cons_succ]); (try simp only [List.getElem_cons_zero]); (try simp only [Act.put]); (try simp only [List.setIfInBounds_toArray]); (try simp only [List.set_cons_succ]); (try simp only [List.set_cons_zero])
          refine wpAnyH_take (i := 5) (v := ?v74) rfl (by kernel_rfl) (by kernel_rfl) (by kernel_rfl) (fun _ _ _ h => h) (Or.inl ⟨by rfl, ?hy74⟩) hHeld ?rest74
          case hy74 => (intro w hSw; (try dsimp only at hSw); (try go_split_ands); go_simp; first | done | with_reducible rfl)
          (try simp only [List.getElem_toArray]); (try simp only [List.getElem_cons_succ]); (try simp only [List.getElem_cons_zero]); (try simp only [Act.put]); (try simp only [List.setIfInBounds_toArray]); (try simp only [List.set_cons_succ]); (try simp only [List.set_cons_zero])
          refine wpAnyH_take (i := 6) (v := undef) rfl (by kernel_rfl) (by kernel_rfl) (by kernel_rfl) (fun _ _ _ h => h) (Or.inr ⟨by rfl, rfl⟩) hHeld ?_
          (try simp only [List.getElem_toArray]); (try simp only [List.getElem_cons_succ]); (try simp only [List.getElem_cons_zero]); (try simp only [Act.put]); (try simp only [List.setIfInBounds_toArray]); (try simp only [List.set_cons_succ]); (try simp only [List.set_cons_zero])
          refine wpAnyH_take (i := 7) (v := undef) rfl (by kernel_rfl) (by kernel_rfl) (by kernel_rfl) (fun _ _ _ h => h) (Or.inr ⟨by rfl, rfl⟩) hHeld ?_
          (try simp only [List.getElem_toArray]); (try simp only [List.getElem_cons_succ]); (try simp only [List.getElem_cons_zero]); (try simp only [Act.put]); (try simp only [List.setIfInBounds_toArray]); (try simp only [List.set_cons_succ]); (try simp only [List.set_cons_zero])
          refine wpAnyH_take (i := 8) (v := undef) rfl (by kernel_rfl) (by kernel_rfl) (by kernel_rfl) (fun _ _ _ h => h) (Or.inr ⟨by rfl, rfl⟩) hHeld ?_
          (try simp only [List.getElem_toArray]); (try simp only [List.getElem_cons_succ]); (try simp only [List.getElem_cons_zero]); (try simp only [Act.put]); (try simp only [List.setIfInBounds_toArray]); (try simp only [List.set_cons_succ]); (try simp only [List.set_cons_zero])
          refine wpAnyH_take (i := 9) (v := undef) rfl (by kernel_rfl) (by kernel_rfl) (by kernel_rfl) (fun _ _ _ h => h) (Or.inr ⟨by rfl, rfl⟩) hHeld ?_
          (try simp only [List.getElem_toArray]); (try simp only [List.getElem_cons_succ]); (try simp only [List.getElem_cons_zero]); (try simp only [Act.put]); (try simp only [List.setIfInBounds_toArray]); (try simp only [List.set_cons_succ]); (try simp only [List.set_cons_zero])
          refine wpAnyH_take (i := 10) (v := undef) rfl (by kernel_rfl) (by kernel_rfl) (by kernel_rfl) (fun _ _ _ h => h) (Or.inr ⟨by rfl, rfl⟩) hHeld ?_
          (try simp only [List.getElem_toArray]); (try simp only [List.getElem_cons_succ]); (try simp only [List.getElem_cons_zero]); (try simp only [Act.put]); (try simp only [List.setIfInBounds_toArray]); (try simp only [List.set_cons_succ]); (try simp only [List.set_cons_zero])
          refine wpAnyH_take (i := 11) (v := undef) rfl (by kernel_rfl) (by kernel_rfl) (by kernel_rfl) (fun _ _ _ h => h) (Or.inr ⟨by rfl, rfl⟩) hHeld ?_
          (try simp only [List.getElem_toArray]); (try simp only [List.getElem_cons_succ]); (try simp only [List.getElem_cons_zero]); (try simp only [Act.put]); (try simp only [List.setIfInBounds_toArray]); (try simp only [List.set_cons_succ]); (try simp only [List.set_cons_zero])
          refine wpAnyH_take (i := 12) (v := undef) rfl (by kernel_rfl) (by kernel_rfl) (by kernel_rfl) (fun _ _ _ h => h) (Or.inr ⟨by rfl, rfl⟩) hHeld ?_
          (try simp only [List.getElem_toArray]); (try simp only [List.getElem_cons_succ]); (try simp only [List.getElem_cons_zero]); (try simp only [Act.put]); (try simp only [List.setIfInBounds_toArray]); (try simp only [List.set_cons_succ]); (try simp only [List.set_cons_zero])
          refine wpAnyH_take (i := 13) (v := ?v75) rfl (by kernel_rfl) (by kernel_rfl) (by kernel_rfl) (fun _ _ _ h => h) (Or.inl ⟨by rfl, ?hy75⟩) hHeld ?rest75
          case hy75 => (intro w hSw; (try dsimp only at hSw); (try go_split_ands); go_simp; first | done | with_reducible rfl)
          (try simp only [List.getElem_toArray]); (try simp only [List.getElem_cons_succ]); (try simp only [List.getElem_cons_zero]); (try simp only [Act.put]); (try simp only [List.setIfInBounds_toArray]); (try simp only [List.set_cons_succ]); (try simp only [List.set_cons_zero])
          refine wpAnyH_take (i := 14) (v := ?v76) rfl (by kernel_rfl) (by kernel_rfl) (by kernel_rfl) (fun _ _ _ h => h) (Or.inl ⟨by rfl, ?hy76⟩) hHeld ?rest76
          case hy76 => (intro w hSw; (try dsimp only at hSw); (try go_split_ands); go_simp; first | done | with_reducible rfl)
          (try simp only [List.getElem_toArray]); (try simp only [List.getElem_cons_succ]); (try simp only [List.getElem_cons_zero]); (try simp only [Act.put]); (try simp only [List.setIfInBounds_toArray]); (try simp only [List.set_cons_succ]); (try simp only [List.set_cons_zero])
          refine wpAnyH_done (by kernel_rfl) ?_ _
          obtain ⟨n0, n1, n2, n3, n4, n5, n6, n7⟩ := cells8 (S5.out.at 2 rfl)
          have fn := fun j => Lib.frozen_of_heap (S5.out.at 2 rfl) j
          have hcv := run_str (P := Try.prog) 66 9 5 Try.underlying66 Try.underlying5 Try.underlying9 HBV.out
          go_upto_region 11 with (fail)
          refine code_set1 (S5.out.at 2 rfl) ?_
          intro W6 hb hg hs hn
          clear n0 n1 n2 n3 n4 n5 n6 n7 fn hcv
          have hn2 : W6.heap[W2.heap.size]? = some (.cells #[.int .i64 n.kind, .int .i64 n.mode, .int .i64 n.owner, .int .i64 n.links, .int .i64 n.opn, .int .i64 n.up, .string (bs b), .slice aon n.names.length cpn] 59 (0, 0)) := hn
          have S6 := Lib.hid (S5.out.set 2 rfl hb hg hs hn2)
          clear hb hg hs hn hn2
          have h_d := (S6.out.at 0 rfl)
          have h_n := (S6.out.at 2 rfl)
          go_wp2_with (first | (refine wpList_load_row rfl 24 _ rfl _ rfl 24 _ (0, 0) _ h_d Try.underlying24 rfl (by kernel_rfl) ?_) | (refine wpList_load_row rfl 59 _ rfl _ rfl 59 _ (0, 0) _ h_n Try.underlying59 rfl (by kernel_rfl) ?_))
          refine (set_g _ l most room i (dataN n b) _ (.slice aon n.names.length cpn) W6 S6.out.oldX (S6.out.g 0 rfl) (Nat.le_trans HSm.out.1 (by decide)) ((S6.out.n 0 rfl).same (m := dataN n b) rfl) hnm).mono ?_
          rintro e W7 ⟨ao2, cp2, rfl, hg2, hb⟩
          clear h_d h_n
          have S7 := Lib.hid ((S6.out.call hb).addG hg2)
          clear hb hg2
          have h_r := (S7.out.at 1 rfl)
          go_wp2_with (first | (refine wpList_store_row rfl 24 _ _ rfl _ rfl rfl h_r rfl (by kernel_rfl) rfl ?_; intro W8 hb hg hs hn; have S8 := Lib.hid (S7.out.set 1 rfl hb hg hs hn); clear hb hg hs hn))
          refine bodyPost_ret (HRET.out _ _ _ (S8.out.at 1 rfl) rfl _ rfl) rfl ?_
          rw [HR.out]
          exact ⟨_, _, rfl, S8.out.gX 1 rfl, S8.out.bel⟩
  · have qh01 : (f == 0) = false := by simpa using h0
    have qh02 : (f != 0) = true := by simpa using h0
    have qh03 : decide (f = 0) = false := by simpa using h0
    have HR : Hid (editL l room i num M = (l, f)) := Lib.hid (by unfold editL; rw [← HF.out, if_pos h0])
    clear h0
    have h_r := (S3.out.at 1 rfl)
    have h_d := (S3.out.at 0 rfl)
    go_wp2_with (first | (refine wpList_load_row rfl 24 _ rfl _ rfl 24 _ (0, 0) _ h_d Try.underlying24 rfl (by kernel_rfl) ?_) | (refine wpList_store_row rfl 24 _ _ rfl _ rfl rfl h_r rfl (by kernel_rfl) rfl ?_; intro W4 hb hg hs hn; have S4 := Lib.hid (S3.out.set 1 rfl hb hg hs hn); clear hb hg hs hn))
    refine bodyPost_ret (HRET.out _ _ _ (S4.out.at 1 rfl) rfl _ rfl) rfl ?_
    rw [HR.out]
    exact ⟨_, _, rfl, S4.out.gX 0 rfl, S4.out.bel⟩
end Go.Proofs.Ythpcldmhamjnbaa
