/-
  The program's file, Size, Read.
-/
import Derived.Test.YthpcldmhamjnbaaCntPrgA
import Derived.Test.YthpcldmhamjnbaaCntRefA
import Derived.Test.YthpcldmhamjnbaaCntRefB
namespace Go.Proofs.Ythpcldmhamjnbaa
open Go.RowKit Go.Shelf
attribute [local go_sem ↓] Go.wp_at_zero Go.wp_at_succ

/-- The node that the program's file tells. -/
def fileN (l : List NodeL) (i : Int) : NodeL := if fileE l i = 0 then getL l i else zeroN
theorem fileN_ok {l : List NodeL} {i : Int} (h : fileE l i = 0) : fileN l i = getL l i := if_pos h
theorem fileN_no {l : List NodeL} {i : Int} (h : fileE l i ≠ 0) : fileN l i = zeroN := if_neg h
theorem part_ext (d : Nm) (j m : Nat) : ((bs d).extract (min (j : Int) (d.length : Int)).toNat d.length).extract 0 (min (m : Int) ((d.length - (min (j : Int) (d.length : Int)).toNat : Nat) : Int)).toNat = bs (partD d j m) := by
  have e1 : (min (j : Int) (d.length : Int)).toNat = min j d.length := by omega
  rw [e1, bs_drop d _ _ rfl, bs_take]
  congr 1
  have e2 : (min (m : Int) ((d.length - min j d.length : Nat) : Int)).toNat = min m (d.length - min j d.length) := by omega
  rw [e2]
  congr 1
  apply List.ext_getElem?
  intro k
  rw [part_get, List.getElem?_take, List.getElem?_drop]
  by_cases h : k < min m (d.length - min j d.length)
  · rw [if_pos h, if_pos (by omega)]
    congr 1
    omega
  · rw [if_neg h]
    split
    · exact (List.getElem?_eq_none (by omega)).symm
    · rfl
/-- What the program's file tells. -/
def PFileIs (X : Nat → Prop) (l : List NodeL) (i : Int) (e : Ending) (w w' : World) : Prop :=
  ∃ ao cap, e = .returned (.tuple #[nval (fileN l i) (.slice ao (fileN l i).names.length cap), .int .i64 (fileE l i)]) ∧ NodeX X (fileN l i) (.slice ao (fileN l i).names.length cap) w' ∧ Below w.heap.size w w'
set_option maxRecDepth 100000 in
set_option maxHeartbeats 4000000 in
theorem pfile_c (X : Nat → Prop) (l : List NodeL) (most room i : Int) (ao : Option Addr) (cap : Nat) (w : World) (hX : Old X w) (hg : GivesX X l (.slice ao l.length cap) w) (hl : l.length ≤ 10000) (hnl : ∀ n ∈ l, n.names.length ≤ 10000) :
    Calls Try.prog 24 #[diskV ao l.length cap most room, .int .i64 i] w fun e w' => PFileIs X l i e w w' := by
  have S0 := Lib.hid (St.start (G := [(l, .slice ao l.length cap)]) (N := []) hX (one_g hg) no_n)
  have HRET : Hid (∀ (W : World) (cs : Array Value) (fr), W.heap[w.heap.size + 1]? = some (.cells cs 59 fr) → cs.size = 8 → ∀ tmps : Array Value, tmps.getD 4 undef = .pointer (some ⟨w.heap.size + 1, 0, none⟩) → (results Try.f24 tmps).run Try.prog W = .ok (.tuple #[.agg cs, tmps.getD 5 undef]) W) := Lib.hid fun W cs fr h hs tmps ht =>
  results_ct (p := 4) (u := 5) (ty := 59) rfl tmps W (w.heap.size + 1) _ cs fr _ ht h Try.underlying59 rfl (by rw [hs]; kernel_rfl)
  clear hX hg
  unfold PFileIs
  go_enter Try.func24, Try.ntmps24
  go_upto_region 1 with (fail)
  refine code_fresh2 ?_
  intro W1 hb hA0 hA1 hs
  have S1 := Lib.hid (S0.out.new2 hb hA0 hA1)
  clear hb hA0 hA1 hs
  obtain ⟨d0, d1, d2⟩ := cells3 (S1.out.at 0 rfl)
  go_wp2_with fail
  refine (getc _ l most room i _ W1 S1.out.oldX (S1.out.g 0 rfl) hl hnl).mono ?_
  rintro e W2 ⟨aon, cpn, rfl, hn1, hb⟩
  clear d0 d1 d2
  have S2 := Lib.hid ((S1.out.call hb).addN hn1)
  clear hb hn1
  obtain ⟨n, hn⟩ : ∃ n, n = getL l i := ⟨_, rfl⟩
  obtain ⟨b, hb⟩ : ∃ b, b = gotB l i := ⟨_, rfl⟩
  rw [← hn] at S2 ⊢
  rw [← hb]
  have HE := Lib.hid (file_at hn hb)
  have HN := Lib.hid hn
  clear hn hb
  go_upto_region 2 with (fail)
  refine code_fresh1 ?_
  intro W3 hb hA0 hs
  have S3 := Lib.hid (S2.out.new1 hb hA0)
  clear hb hA0 hs
  cases b with
  | false =>
    replace HE := Lib.hid (HE.out.trans (if_pos rfl))
    have HZ := Lib.hid (fileN_no (l := l) (i := i) (by rw [HE.out]; decide))
    have h_r := (S3.out.at 1 rfl)
    go_wp2_with (first | (refine wpList_store_row rfl 59 _ _ rfl _ rfl rfl h_r rfl (by kernel_rfl) rfl ?_; intro W4 hb hg hs hn; have S4 := Lib.hid (S3.out.set 1 rfl hb hg hs hn); clear hb hg hs hn))
    refine bodyPost_ret (HRET.out _ _ _ (S4.out.at 1 rfl) rfl _ rfl) rfl ?_
    rw [HE.out, HZ.out]
    exact ⟨_, _, rfl, NodeX.zero _ _, S4.out.bel⟩
  | true =>
    replace HE := Lib.hid (HE.out.trans (if_neg (by simp)))
    by_cases h2 : n.kind = 2
    · replace HE := Lib.hid (HE.out.trans (if_pos h2))
      have qh21 : (n.kind == 2) = true := by simpa using h2
      have qh22 : (n.kind != 2) = false := by simpa using h2
      have qh23 : decide (n.kind = 2) = true := by simpa using h2
      clear h2
      obtain ⟨n0, -, -, -, -, -, -, -⟩ := cells8 (S3.out.at 2 rfl)
      have HZ := Lib.hid (fileN_no (l := l) (i := i) (by rw [HE.out]; decide))
      have h_r := (S3.out.at 1 rfl)
      go_wp2_with (first | (refine wpList_store_row rfl 59 _ _ rfl _ rfl rfl h_r rfl (by kernel_rfl) rfl ?_; intro W4 hb hg hs hn; have S4 := Lib.hid (S3.out.set 1 rfl hb hg hs hn); clear hb hg hs hn))
      refine bodyPost_ret (HRET.out _ _ _ (S4.out.at 1 rfl) rfl _ rfl) rfl ?_
      rw [HE.out, HZ.out]
      exact ⟨_, _, rfl, NodeX.zero _ _, S4.out.bel⟩
    · replace HE := Lib.hid (HE.out.trans (if_neg h2))
      have qh21 : (n.kind == 2) = false := by simpa using h2
      have qh22 : (n.kind != 2) = true := by simpa using h2
      have qh23 : decide (n.kind = 2) = false := by simpa using h2
      clear h2
      by_cases h1 : n.kind = 1
      · replace HE := Lib.hid (HE.out.trans (if_neg (by simp [h1])))
        have qh11 : (n.kind == 1) = true := by simpa using h1
        have qh12 : (n.kind != 1) = false := by simpa using h1
        have qh13 : decide (n.kind = 1) = true := by simpa using h1
        clear h1
        obtain ⟨n0, -, -, -, -, -, -, -⟩ := cells8 (S3.out.at 2 rfl)
        have HZ := Lib.hid (fileN_ok HE.out)
        have h_r := (S3.out.at 1 rfl)
        have h_n := (S3.out.at 2 rfl)
        go_wp2_with (first | (refine wpList_load_row rfl 59 _ rfl _ rfl 59 _ (0, 0) _ h_n Try.underlying59 rfl (by kernel_rfl) ?_) | (refine wpList_store_row rfl 59 _ _ rfl _ rfl rfl h_r rfl (by kernel_rfl) rfl ?_; intro W4 hb hg hs hn; have S4 := Lib.hid (S3.out.set 1 rfl hb hg hs hn); clear hb hg hs hn))
        refine bodyPost_ret (HRET.out _ _ _ (S4.out.at 1 rfl) rfl _ rfl) rfl ?_
        rw [HE.out, HZ.out, ← HN.out]
        exact ⟨_, _, rfl, S4.out.nX 0 rfl, S4.out.bel⟩
      · replace HE := Lib.hid (HE.out.trans (if_pos h1))
        have qh11 : (n.kind == 1) = false := by simpa using h1
        have qh12 : (n.kind != 1) = true := by simpa using h1
        have qh13 : decide (n.kind = 1) = false := by simpa using h1
        clear h1
        obtain ⟨n0, -, -, -, -, -, -, -⟩ := cells8 (S3.out.at 2 rfl)
        have HZ := Lib.hid (fileN_no (l := l) (i := i) (by rw [HE.out]; decide))
        have h_r := (S3.out.at 1 rfl)
        go_wp2_with (first | (refine wpList_store_row rfl 59 _ _ rfl _ rfl rfl h_r rfl (by kernel_rfl) rfl ?_; intro W4 hb hg hs hn; have S4 := Lib.hid (S3.out.set 1 rfl hb hg hs hn); clear hb hg hs hn))
        refine bodyPost_ret (HRET.out _ _ _ (S4.out.at 1 rfl) rfl _ rfl) rfl ?_
        rw [HE.out, HZ.out]
        exact ⟨_, _, rfl, NodeX.zero _ _, S4.out.bel⟩
set_option maxRecDepth 100000 in
set_option maxHeartbeats 4000000 in
theorem psize_c (l : List NodeL) (most room i : Int) (ao : Option Addr) (cap : Nat) (w : World) (hg : GivesX (fun _ => False) l (.slice ao l.length cap) w) (hl : l.length ≤ 10000) (hnl : ∀ n ∈ l, n.names.length ≤ 10000) :
    Calls Try.prog 14 #[diskV ao l.length cap most room, .int .i64 i] w fun e w' => e = .returned (.tuple #[.int .i64 (sizeL l i).1, .int .i64 (sizeL l i).2]) ∧ Below w.heap.size w w' := by
  have S0 := Lib.hid (St.start (w := w) (G := [(l, .slice ao l.length cap)]) (N := []) (fun _ h => h.elim) (one_g hg) no_n)
  have HR : Hid (sizeL l i = (((fileN l i).data.length : Int), fileE l i)) := Lib.hid (by
    unfold sizeL
    by_cases h : fileE l i = 0
    · rw [if_neg (by simpa using h), fileN_ok h, h]
    · rw [if_pos h, fileN_no h]; rfl)
  clear hg
  go_enter Try.func14, Try.ntmps14
  go_upto_region 1 with (fail)
  refine code_fresh1 ?_
  intro W1 hb hA0 hs
  have S1 := Lib.hid (S0.out.new1 hb hA0)
  clear hb hA0 hs
  obtain ⟨d0, d1, d2⟩ := cells3 (S1.out.at 0 rfl)
  go_wp2_with fail
  refine (pfile_c _ l most room i _ _ W1 S1.out.oldX (S1.out.g 0 rfl) hl hnl).mono ?_
  rintro e W2 ⟨aon, cpn, rfl, hn1, hb⟩
  clear d0 d1 d2
  have S2 := Lib.hid ((S1.out.call hb).addN hn1)
  clear hb hn1
  obtain ⟨n, hn⟩ : ∃ n, n = fileN l i := ⟨_, rfl⟩
  obtain ⟨f, hf⟩ : ∃ f, f = fileE l i := ⟨_, rfl⟩
  rw [← hn] at S2 ⊢
  rw [← hf]
  have HN := Lib.hid hn
  have HF := Lib.hid hf
  clear hn hf
  go_upto_region 2 with (fail)
  refine code_fresh1 ?_
  intro W3 hb hA0 hs
  have S3 := Lib.hid (S2.out.new1 hb hA0)
  clear hb hA0 hs
  obtain ⟨-, -, -, -, -, -, n6, -⟩ := cells8 (S3.out.at 1 rfl)
  go_wp2_with fail
  go_ret2
  rw [HR.out, ← HN.out, ← HF.out]
  exact ⟨rfl, S3.out.bel⟩
set_option maxRecDepth 100000 in
set_option maxHeartbeats 4000000 in
theorem pread_c (l : List NodeL) (most room i a n' : Int) (ao : Option Addr) (cap : Nat) (w : World) (hg : GivesX (fun _ => False) l (.slice ao l.length cap) w) (hl : l.length ≤ 10000) (hnl : ∀ n ∈ l, n.names.length ≤ 10000) :
    Calls Try.prog 11 #[diskV ao l.length cap most room, .int .i64 i, .int .i64 a, .int .i64 n'] w fun e w' => e = .returned (.tuple #[.string (bs (readL l i a n').1), .int .i64 (readL l i a n').2]) ∧ Below w.heap.size w w' := by
  have S0 := Lib.hid (St.start (w := w) (G := [(l, .slice ao l.length cap)]) (N := []) (fun _ h => h.elim) (one_g hg) no_n)
  clear hg
  go_enter Try.func11, Try.ntmps11
  go_upto_region 1 with (fail)
  refine code_fresh1 ?_
  intro W1 hb hA0 hs
  have S1 := Lib.hid (S0.out.new1 hb hA0)
  clear hb hA0 hs
  obtain ⟨d0, d1, d2⟩ := cells3 (S1.out.at 0 rfl)
  go_wp2_with fail
  refine (pfile_c _ l most room i _ _ W1 S1.out.oldX (S1.out.g 0 rfl) hl hnl).mono ?_
  rintro e W2 ⟨aon, cpn, rfl, hn1, hb⟩
  clear d0 d1 d2
  have S2 := Lib.hid ((S1.out.call hb).addN hn1)
  clear hb hn1
  obtain ⟨n, hn⟩ : ∃ n, n = fileN l i := ⟨_, rfl⟩
  obtain ⟨f, hf⟩ : ∃ f, f = fileE l i := ⟨_, rfl⟩
  rw [← hn] at S2 ⊢
  rw [← hf]
  have HN := Lib.hid hn
  have HF := Lib.hid hf
  clear hn hf
  go_upto_region 2 with (fail)
  refine code_fresh1 ?_
  intro W3 hb hA0 hs
  have S3 := Lib.hid (S2.out.new1 hb hA0)
  clear hb hA0 hs
  by_cases h0 : f = 0
  · subst h0
    replace HN := Lib.hid (HN.out.trans (fileN_ok HF.out.symm))
    by_cases hneg : a < 0 ∨ n' < 0
    · skip
      have HR : Hid (readL l i a n' = ([], 1)) := Lib.hid (by unfold readL; rw [← HF.out, if_neg (by simp), if_pos hneg])
      by_cases ha : a < 0
      · have i1 : decide (a < 0) = true := decide_eq_true ha
        clear hneg ha
        go_wp2_with fail
        go_ret2
        rw [HR.out]
        exact ⟨rfl, S3.out.bel⟩
      · have i1 : decide (a < 0) = false := decide_eq_false ha
        have i2 : decide (n' < 0) = true := decide_eq_true (hneg.resolve_left ha)
        clear hneg ha
        go_wp2_with fail
        go_ret2
        rw [HR.out]
        exact ⟨rfl, S3.out.bel⟩
    · have i1 : decide (a < 0) = false := decide_eq_false (fun h => hneg (.inl h))
      have i2 : decide (n' < 0) = false := decide_eq_false (fun h => hneg (.inr h))
      have HR0 : Hid (readL l i a n' = (headD (restD n.data a) n', 0)) := Lib.hid (by unfold readL partD; rw [← HF.out, if_neg (by simp), if_neg hneg, ← HN.out])
      obtain ⟨j, rfl⟩ := Int.eq_ofNat_of_zero_le (show 0 ≤ a by omega)
      obtain ⟨m, rfl⟩ := Int.eq_ofNat_of_zero_le (show 0 ≤ n' by omega)
      clear hneg
      obtain ⟨-, -, -, -, -, -, n6, -⟩ := cells8 (S3.out.at 1 rfl)
      go_wp2_with fail
      go_ret2
      rw [HR0.out]
      exact ⟨congrArg (fun s => Ending.returned (.tuple #[.string s, .int .i64 0])) (part_ext n.data j m), S3.out.bel⟩
  · have qh01 : (f == 0) = false := by simpa using h0
    have qh02 : (f != 0) = true := by simpa using h0
    have qh03 : decide (f = 0) = false := by simpa using h0
    have HR : Hid (readL l i a n' = ([], f)) := Lib.hid (by unfold readL; rw [← HF.out, if_pos h0])
    clear h0
    go_wp2_with fail
    go_ret2
    rw [HR.out]
    exact ⟨rfl, S3.out.bel⟩
end Go.Proofs.Ythpcldmhamjnbaa
