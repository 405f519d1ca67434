/-
  The document's file, Size, Read, noughts, kept.
-/
import Derived.Test.YthpcldmhamjnbaaCntSet
import Derived.Test.YthpcldmhamjnbaaCntPlain
namespace Go.Proofs.Ythpcldmhamjnbaa
open Go.RowKit Go.Shelf
attribute [local go_sem ↓] Go.wp_at_zero Go.wp_at_succ

theorem file_at {l : List NodeL} {i : Int} {n : NodeL} {b : Bool} (hn : n = getL l i) (hb : b = gotB l i) : fileE l i = if b = false then 2 else if n.kind = 2 then 5 else if n.kind ≠ 1 then 1 else 0 := by
  subst hn; subst hb; rfl
/-- What file tells. -/
def FileIs (X : Nat → Prop) (l : List NodeL) (i : Int) (e : Ending) (w w' : World) : Prop :=
  ∃ ao cap, e = .returned (.tuple #[nval (getL l i) (.slice ao (getL l i).names.length cap), .int .i64 (fileE l i)]) ∧ NodeX X (getL l i) (.slice ao (getL l i).names.length cap) w' ∧ Below w.heap.size w w'
set_option maxRecDepth 100000 in
set_option maxHeartbeats 4000000 in
theorem rfile_c (X : Nat → Prop) (l : List NodeL) (most room i : Int) (ao : Option Addr) (cap : Nat) (w : World) (hX : Old X w) (hg : GivesX X l (.slice ao l.length cap) w) (hl : l.length ≤ 10000) :
    Calls Try.prog 25 #[diskV ao l.length cap most room, .int .i64 i] w fun e w' => FileIs X l i e w w' := by
  have S0 := Lib.hid (St.start (G := [(l, .slice ao l.length cap)]) (N := []) hX (one_g hg) no_n)
  have HRET : Hid (∀ (W : World) (cs : Array Value) (fr), W.heap[w.heap.size + 1]? = some (.cells cs 53 fr) → cs.size = 8 → ∀ tmps : Array Value, tmps.getD 4 undef = .pointer (some ⟨w.heap.size + 1, 0, none⟩) → (results Try.f25 tmps).run Try.prog W = .ok (.tuple #[.agg cs, tmps.getD 5 undef]) W) := Lib.hid fun W cs fr h hs tmps ht =>
  results_ct (p := 4) (u := 5) (ty := 53) rfl tmps W (w.heap.size + 1) _ cs fr _ ht h Try.underlying53 rfl (by rw [hs]; kernel_rfl)
  clear hX hg
  unfold FileIs
  go_enter Try.func25, Try.ntmps25
  go_upto_region 1 with (fail)
  refine code_fresh2 ?_
  intro W1 hb hA0 hA1 hs
  have S1 := Lib.hid (S0.out.new2 hb hA0 hA1)
  clear hb hA0 hA1 hs
  obtain ⟨d0, d1, d2⟩ := cells3 (S1.out.at 0 rfl)
  go_wp2_with fail
  refine (rgetc _ l most room i _ W1 (S1.out.g 0 rfl) hl).mono ?_
  rintro e W2 ⟨aon, cpn, rfl, hn1, hb⟩
  clear d0 d1 d2
  have S2 := Lib.hid ((S1.out.call hb).addN hn1)
  clear hb hn1
  obtain ⟨n, hn⟩ : ∃ n, n = getL l i := ⟨_, rfl⟩
  obtain ⟨b, hb⟩ : ∃ b, b = gotB l i := ⟨_, rfl⟩
  rw [← hn] at S2 ⊢
  rw [← hb]
  have HE := Lib.hid (file_at hn hb)
  have HN := Lib.hid hn
  clear hn hb
  go_upto_region 2 with (fail)
  refine code_fresh1 ?_
  intro W3 hb hA0 hs
  have S3 := Lib.hid (S2.out.new1 hb hA0)
  clear hb hA0 hs
  cases b with
  | false =>
    replace HE := Lib.hid (HE.out.trans (if_pos rfl))
    have h_r := (S3.out.at 1 rfl)
    have h_n := (S3.out.at 2 rfl)
    go_wp2_with (first | (refine wpList_load_row rfl 53 _ rfl _ rfl 53 _ (0, 0) _ h_n Try.underlying53 rfl (by kernel_rfl) ?_) | (refine wpList_store_row rfl 53 _ _ rfl _ rfl rfl h_r rfl (by kernel_rfl) rfl ?_; intro W4 hb hg hs hn; have S4 := Lib.hid (S3.out.set 1 rfl hb hg hs hn); clear hb hg hs hn))
    refine bodyPost_ret (HRET.out _ _ _ (S4.out.at 1 rfl) rfl _ rfl) rfl ?_
    rw [HE.out, ← HN.out]
    exact ⟨_, _, rfl, S4.out.nX 0 rfl, S4.out.bel⟩
  | true =>
    replace HE := Lib.hid (HE.out.trans (if_neg (by simp)))
    by_cases h2 : n.kind = 2
    · replace HE := Lib.hid (HE.out.trans (if_pos h2))
      have qh21 : (n.kind == 2) = true := by simpa using h2
      have qh22 : (n.kind != 2) = false := by simpa using h2
      have qh23 : decide (n.kind = 2) = true := by simpa using h2
      clear h2
      obtain ⟨n0, -, -, -, -, -, -, -⟩ := cells8 (S3.out.at 2 rfl)
      have h_r := (S3.out.at 1 rfl)
      have h_n := (S3.out.at 2 rfl)
      go_wp2_with (first | (refine wpList_load_row rfl 53 _ rfl _ rfl 53 _ (0, 0) _ h_n Try.underlying53 rfl (by kernel_rfl) ?_) | (refine wpList_store_row rfl 53 _ _ rfl _ rfl rfl h_r rfl (by kernel_rfl) rfl ?_; intro W4 hb hg hs hn; have S4 := Lib.hid (S3.out.set 1 rfl hb hg hs hn); clear hb hg hs hn))
      refine bodyPost_ret (HRET.out _ _ _ (S4.out.at 1 rfl) rfl _ rfl) rfl ?_
      rw [HE.out, ← HN.out]
      exact ⟨_, _, rfl, S4.out.nX 0 rfl, S4.out.bel⟩
    · replace HE := Lib.hid (HE.out.trans (if_neg h2))
      have qh21 : (n.kind == 2) = false := by simpa using h2
      have qh22 : (n.kind != 2) = true := by simpa using h2
      have qh23 : decide (n.kind = 2) = false := by simpa using h2
      clear h2
      by_cases h1 : n.kind = 1
      · replace HE := Lib.hid (HE.out.trans (if_neg (by simp [h1])))
        have qh11 : (n.kind == 1) = true := by simpa using h1
        have qh12 : (n.kind != 1) = false := by simpa using h1
        have qh13 : decide (n.kind = 1) = true := by simpa using h1
        clear h1
        obtain ⟨n0, -, -, -, -, -, -, -⟩ := cells8 (S3.out.at 2 rfl)
        have h_r := (S3.out.at 1 rfl)
        have h_n := (S3.out.at 2 rfl)
        go_wp2_with (first | (refine wpList_load_row rfl 53 _ rfl _ rfl 53 _ (0, 0) _ h_n Try.underlying53 rfl (by kernel_rfl) ?_) | (refine wpList_store_row rfl 53 _ _ rfl _ rfl rfl h_r rfl (by kernel_rfl) rfl ?_; intro W4 hb hg hs hn; have S4 := Lib.hid (S3.out.set 1 rfl hb hg hs hn); clear hb hg hs hn))
        refine bodyPost_ret (HRET.out _ _ _ (S4.out.at 1 rfl) rfl _ rfl) rfl ?_
        rw [HE.out, ← HN.out]
        exact ⟨_, _, rfl, S4.out.nX 0 rfl, S4.out.bel⟩
      · replace HE := Lib.hid (HE.out.trans (if_pos h1))
        have qh11 : (n.kind == 1) = false := by simpa using h1
        have qh12 : (n.kind != 1) = true := by simpa using h1
        have qh13 : decide (n.kind = 1) = false := by simpa using h1
        clear h1
        obtain ⟨n0, -, -, -, -, -, -, -⟩ := cells8 (S3.out.at 2 rfl)
        have h_r := (S3.out.at 1 rfl)
        have h_n := (S3.out.at 2 rfl)
        go_wp2_with (first | (refine wpList_load_row rfl 53 _ rfl _ rfl 53 _ (0, 0) _ h_n Try.underlying53 rfl (by kernel_rfl) ?_) | (refine wpList_store_row rfl 53 _ _ rfl _ rfl rfl h_r rfl (by kernel_rfl) rfl ?_; intro W4 hb hg hs hn; have S4 := Lib.hid (S3.out.set 1 rfl hb hg hs hn); clear hb hg hs hn))
        refine bodyPost_ret (HRET.out _ _ _ (S4.out.at 1 rfl) rfl _ rfl) rfl ?_
        rw [HE.out, ← HN.out]
        exact ⟨_, _, rfl, S4.out.nX 0 rfl, S4.out.bel⟩
set_option maxRecDepth 100000 in
set_option maxHeartbeats 4000000 in
theorem rsize_c (l : List NodeL) (most room i : Int) (ao : Option Addr) (cap : Nat) (w : World) (hg : GivesX (fun _ => False) l (.slice ao l.length cap) w) (hl : l.length ≤ 10000) :
    Calls Try.prog 15 #[diskV ao l.length cap most room, .int .i64 i] w fun e w' => e = .returned (.tuple #[.int .i64 (sizeL l i).1, .int .i64 (sizeL l i).2]) ∧ Below w.heap.size w w' := by
  have S0 := Lib.hid (St.start (w := w) (G := [(l, .slice ao l.length cap)]) (N := []) (fun _ h => h.elim) (one_g hg) no_n)
  clear hg
  go_enter Try.func15, Try.ntmps15
  go_upto_region 1 with (fail)
  refine code_fresh1 ?_
  intro W1 hb hA0 hs
  have S1 := Lib.hid (S0.out.new1 hb hA0)
  clear hb hA0 hs
  obtain ⟨d0, d1, d2⟩ := cells3 (S1.out.at 0 rfl)
  go_wp2_with fail
  refine (rfile_c _ l most room i _ _ W1 S1.out.oldX (S1.out.g 0 rfl) hl).mono ?_
  rintro e W2 ⟨aon, cpn, rfl, hn1, hb⟩
  clear d0 d1 d2
  have S2 := Lib.hid ((S1.out.call hb).addN hn1)
  clear hb hn1
  obtain ⟨n, hn⟩ : ∃ n, n = getL l i := ⟨_, rfl⟩
  obtain ⟨f, hf⟩ : ∃ f, f = fileE l i := ⟨_, rfl⟩
  rw [← hn] at S2 ⊢
  rw [← hf]
  have HN := Lib.hid hn
  have HF := Lib.hid hf
  clear hn hf
  go_upto_region 2 with (fail)
  refine code_fresh1 ?_
  intro W3 hb hA0 hs
  have S3 := Lib.hid (S2.out.new1 hb hA0)
  clear hb hA0 hs
  by_cases h0 : f = 0
  · subst h0
    have HR : Hid (sizeL l i = ((n.data.length : Int), 0)) := Lib.hid (by unfold sizeL; rw [← HF.out, if_neg (by simp), ← HN.out])
    obtain ⟨-, -, -, -, -, -, n6, -⟩ := cells8 (S3.out.at 1 rfl)
    go_wp2_with fail
    go_ret2
    rw [HR.out]
    exact ⟨rfl, S3.out.bel⟩
  · have qh01 : (f == 0) = false := by simpa using h0
    have qh02 : (f != 0) = true := by simpa using h0
    have qh03 : decide (f = 0) = false := by simpa using h0
    have HR : Hid (sizeL l i = (0, f)) := Lib.hid (by unfold sizeL; rw [← HF.out, if_pos h0])
    clear h0
    go_wp2_with fail
    go_ret2
    rw [HR.out]
    exact ⟨rfl, S3.out.bel⟩
set_option maxRecDepth 100000 in
set_option maxHeartbeats 4000000 in
theorem rread_c (l : List NodeL) (most room i a n' : Int) (ao : Option Addr) (cap : Nat) (w : World) (hg : GivesX (fun _ => False) l (.slice ao l.length cap) w) (hl : l.length ≤ 10000) :
    Calls Try.prog 12 #[diskV ao l.length cap most room, .int .i64 i, .int .i64 a, .int .i64 n'] w fun e w' => e = .returned (.tuple #[.string (bs (readL l i a n').1), .int .i64 (readL l i a n').2]) ∧ Below w.heap.size w w' := by
  have S0 := Lib.hid (St.start (w := w) (G := [(l, .slice ao l.length cap)]) (N := []) (fun _ h => h.elim) (one_g hg) no_n)
  clear hg
  go_enter Try.func12, Try.ntmps12
  go_upto_region 1 with (fail)
  refine code_fresh1 ?_
  intro W1 hb hA0 hs
  have S1 := Lib.hid (S0.out.new1 hb hA0)
  clear hb hA0 hs
  obtain ⟨d0, d1, d2⟩ := cells3 (S1.out.at 0 rfl)
  go_wp2_with fail
  refine (rfile_c _ l most room i _ _ W1 S1.out.oldX (S1.out.g 0 rfl) hl).mono ?_
  rintro e W2 ⟨aon, cpn, rfl, hn1, hb⟩
  clear d0 d1 d2
  have S2 := Lib.hid ((S1.out.call hb).addN hn1)
  clear hb hn1
  obtain ⟨n, hn⟩ : ∃ n, n = getL l i := ⟨_, rfl⟩
  obtain ⟨f, hf⟩ : ∃ f, f = fileE l i := ⟨_, rfl⟩
  rw [← hn] at S2 ⊢
  rw [← hf]
  have HN := Lib.hid hn
  have HF := Lib.hid hf
  clear hn hf
  go_upto_region 2 with (fail)
  refine code_fresh1 ?_
  intro W3 hb hA0 hs
  have S3 := Lib.hid (S2.out.new1 hb hA0)
  clear hb hA0 hs
  by_cases h0 : f = 0
  · subst h0
    by_cases hneg : a < 0 ∨ n' < 0
    · skip
      have HR : Hid (readL l i a n' = ([], 1)) := Lib.hid (by unfold readL; rw [← HF.out, if_neg (by simp), if_pos hneg])
      by_cases ha : a < 0
      · have i1 : decide (a < 0) = true := decide_eq_true ha
        clear hneg ha
        go_wp2_with fail
        go_ret2
        rw [HR.out]
        exact ⟨rfl, S3.out.bel⟩
      · have i1 : decide (a < 0) = false := decide_eq_false ha
        have i2 : decide (n' < 0) = true := decide_eq_true (hneg.resolve_left ha)
        clear hneg ha
        go_wp2_with fail
        go_ret2
        rw [HR.out]
        exact ⟨rfl, S3.out.bel⟩
    · have i1 : decide (a < 0) = false := decide_eq_false (fun h => hneg (.inl h))
      have i2 : decide (n' < 0) = false := decide_eq_false (fun h => hneg (.inr h))
      have HR0 : Hid (readL l i a n' = (headD (restD n.data a) n', 0)) := Lib.hid (by unfold readL partD; rw [← HF.out, if_neg (by simp), if_neg hneg, ← HN.out])
      obtain ⟨j, rfl⟩ := Int.eq_ofNat_of_zero_le (show 0 ≤ a by omega)
      obtain ⟨m, rfl⟩ := Int.eq_ofNat_of_zero_le (show 0 ≤ n' by omega)
      clear hneg
      obtain ⟨-, -, -, -, -, -, n6, -⟩ := cells8 (S3.out.at 1 rfl)
      by_cases hfar : (n.data.length : Int) < (j : Int)
      · have i3 : decide ((n.data.length : Int) < (j : Int)) = true := decide_eq_true hfar
        have i4 : decide (n.data.length < j) = true := decide_eq_true (by omega)
        have HR : Hid (readL l i j m = ([], 0)) := Lib.hid (by rw [HR0.out]; unfold restD; rw [if_pos hfar]; unfold headD; rw [if_neg (by simp)])
        clear hfar
        go_wp2_with fail
        go_ret2
        rw [HR.out]
        exact ⟨rfl, S3.out.bel⟩
      · have i3 : decide ((n.data.length : Int) < (j : Int)) = false := decide_eq_false hfar
        have i4 : decide (n.data.length < j) = false := decide_eq_false (by omega)
        obtain ⟨r, hr⟩ : ∃ r, r = n.data.drop j := ⟨_, rfl⟩
        have hrl : r.length = n.data.length - j := by rw [hr, List.length_drop]
        have j0 : (0 : Int) ≤ (j : Int) := by omega
        have j1 : (j : Int) ≤ (n.data.length : Int) := by omega
        have jt : ((j : Int)).toNat = j := Int.toNat_natCast j
        have hx : (bs n.data).extract j n.data.length = bs r := by rw [hr]; exact bs_drop _ _ _ rfl
        have HR1 : Hid (readL l i j m = (headD r m, 0)) := Lib.hid (by rw [HR0.out]; unfold restD; rw [if_neg hfar, Int.toNat_natCast, hr])
        clear hr hfar hrl
        by_cases hm : (m : Int) < (r.length : Int)
        · have i5 : decide ((m : Int) < (r.length : Int)) = true := decide_eq_true hm
          have i6 : decide (m < r.length) = true := decide_eq_true (by omega)
          have m0 : (0 : Int) ≤ (m : Int) := by omega
          have m1 : (m : Int) ≤ (r.length : Int) := by omega
          have mt : ((m : Int)).toNat = m := Int.toNat_natCast m
          have hy : (bs r).extract 0 m = bs (r.take m) := bs_take _ _
          have HR : Hid (readL l i j m = (r.take m, 0)) := Lib.hid (by rw [HR1.out]; unfold headD; rw [if_pos hm, Int.toNat_natCast])
          clear hm
          go_wp2_with fail
          go_ret2
          rw [HR.out]
          exact ⟨rfl, S3.out.bel⟩
        · have i5 : decide ((m : Int) < (r.length : Int)) = false := decide_eq_false hm
          have i6 : decide (m < r.length) = false := decide_eq_false (by omega)
          have HR : Hid (readL l i j m = (r, 0)) := Lib.hid (by rw [HR1.out]; unfold headD; rw [if_neg hm])
          clear hm
          go_wp2_with fail
          go_ret2
          rw [HR.out]
          exact ⟨rfl, S3.out.bel⟩
  · have qh01 : (f == 0) = false := by simpa using h0
    have qh02 : (f != 0) = true := by simpa using h0
    have qh03 : decide (f = 0) = false := by simpa using h0
    have HR : Hid (readL l i a n' = ([], f)) := Lib.hid (by unfold readL; rw [← HF.out, if_pos h0])
    clear h0
    go_wp2_with fail
    go_ret2
    rw [HR.out]
    exact ⟨rfl, S3.out.bel⟩
set_option maxRecDepth 100000 in
set_option maxHeartbeats 4000000 in
theorem noughts_c (n : Int) (hn : n ≤ 100000) (w : World) : Calls Try.prog 30 #[.int .i64 n] w fun e w' => e = .returned (.string (bs (List.replicate n.toNat 0))) ∧ w = w' := by
  go_enter Try.func30, Try.ntmps30
  go_wp2_with fail
  go_loop [3, 4] (fun s i => ∃ k : Nat, i = .int .i64 k ∧ s = .string (bs (List.replicate k 0)) ∧ k ≤ n.toNat) (fun _ i => n.toNat - (RowKit.intOf i).toNat)
  case atStart => exact ⟨0, rfl, rfl, Nat.zero_le _⟩
  case round =>
    obtain ⟨k, rfl, rfl, hk⟩ := hrel
    by_cases hlt : (k : Int) < n
    · have hI : decide ((k : Int) < n) = true := decide_eq_true hlt
      have hcat : bs (List.replicate k 0) ++ bs [0] = bs (List.replicate (k + 1) 0) := by rw [bs_app, ← List.replicate_succ']
      have hov : ¬ 9223372036854775807 < k + 1 := by omega
      have hov2 : ¬ 9223372036854775807 < (List.replicate k (0 : UInt8)).length + 1 := by rw [List.length_replicate]; exact hov
      go_wp2_with fail
      go_round
      case rel => exact ⟨k + 1, by go_num, by first | rfl | exact congrArg Value.string hcat, by omega⟩
      case measure => simp [RowKit.intOf]; omega
    · have hI : decide ((k : Int) < n) = false := decide_eq_false hlt
      have hke : k = n.toNat := by omega
      clear hlt
      go_wp2_with fail
      go_ret
      exact ⟨rfl, rfl⟩
end Go.Proofs.Ythpcldmhamjnbaa
