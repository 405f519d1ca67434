/-
  The program's Write and Cut; its four calls.
-/
import Derived.Test.YthpcldmhamjnbaaCntPrgD
import Derived.Test.YthpcldmhamjnbaaLaw9H
namespace Go.Proofs.Ythpcldmhamjnbaa
open Go.RowKit Go.Shelf
attribute [local go_sem ↓] Go.wp_at_zero Go.wp_at_succ

theorem kept_same {l : List NodeL} {room i : Int} (h : fileE l i = 0) : keptL l room i (getL l i).data = (l, 0) := by
  obtain ⟨hg, hk⟩ := file_got h
  obtain ⟨k, rfl, hlt⟩ := got_in hg
  have hin : inL l (k : Int) = true := by
    unfold gotB at hg
    rw [Bool.and_eq_true] at hg
    exact hg.1
  unfold keptL
  rw [if_neg (fun h => by have := h.1; omega)]
  have e : dataN (getL l k) (getL l k).data = getL l k := rfl
  rw [e]
  unfold setL
  rw [if_pos hin, Int.toNat_natCast]
  have hgl : getL l (k : Int) = l[k] := by
    unfold getL atI
    rw [if_pos hg, Int.toNat_natCast, List.getD_eq_getElem?_getD, List.getElem?_eq_getElem hlt]
    rfl
  rw [hgl, List.set_getElem_self]
theorem edit_w (l : List NodeL) (room i a : Int) (s : Nm) : editL l room i a (madeW (getL l i).data s a.toNat) = writeL l room i a s := by
  unfold editL writeL
  by_cases h : fileE l i ≠ 0
  · rw [if_pos h, if_pos h]
  · rw [if_neg h, if_neg h]
    by_cases ha : a < 0
    · rw [if_pos ha, if_pos ha]
    · rw [if_neg ha, if_neg ha]
      obtain ⟨j, rfl⟩ := Int.eq_ofNat_of_zero_le (show 0 ≤ a by omega)
      rw [Int.toNat_natCast]
      unfold madeW
      by_cases hs : s = []
      · rw [if_pos hs, if_pos hs]
        exact kept_same (Decidable.not_not.1 h)
      · rw [if_neg hs, if_neg hs]
        by_cases hj : 1000 < j
        · rw [if_pos hj, if_pos (by omega)]
        · rw [if_neg hj, if_neg (by omega)]
theorem edit_c (l : List NodeL) (room i m : Int) : editL l room i m (madeC (getL l i).data m.toNat) = cutL l room i m := by
  unfold editL cutL
  by_cases h : fileE l i ≠ 0
  · rw [if_pos h, if_pos h]
  · rw [if_neg h, if_neg h]
    by_cases ha : m < 0
    · rw [if_pos ha, if_pos ha]
    · rw [if_neg ha, if_neg ha]
      obtain ⟨k, rfl⟩ := Int.eq_ofNat_of_zero_le (show 0 ≤ m by omega)
      rw [Int.toNat_natCast]
      unfold madeC
      by_cases hl : (k : Int) ≤ ((getL l i).data.length : Int)
      · rw [if_neg (by omega), if_pos hl]
        show keptL l room i (sizedD _ k) = _
        unfold sizedD
        rw [show k - (getL l i).data.length = 0 by omega]
        simp
      · rw [if_neg hl]
        by_cases hk : 1000 < k
        · rw [if_pos (by omega), if_pos (by omega)]
        · rw [if_neg (by omega), if_neg (by omega)]
          show keptL l room i (sizedD _ k) = _
          unfold sizedD padD
          rw [List.take_of_length_le (by omega), show ((k : Int) - ((getL l i).data.length : Int)).toNat = k - (getL l i).data.length by omega]
theorem madeW_len (d s : Nm) (a : Nat) (hd : d.length ≤ 2000) (hs : s.length ≤ 1000) : ∀ b, madeW d s a = some b → b.length ≤ 100000 := fun b h => by
  unfold madeW at h
  split at h
  · injection h with h; subst h; omega
  · split at h
    · cases h
    · injection h with h; subst h; rw [putD_len]; omega
theorem madeC_len (d : Nm) (k : Nat) (hd : d.length ≤ 2000) : ∀ b, madeC d k = some b → b.length ≤ 100000 := fun b h => by
  unfold madeC at h
  split at h
  · cases h
  · injection h with h; subst h; rw [sized_len]; omega
set_option maxRecDepth 100000 in
set_option maxHeartbeats 4000000 in
theorem pwrite_c (X : Nat → Prop) (l : List NodeL) (most room i a : Int) (s : Nm) (ao : Option Addr) (cap : Nat) (w : World) (hX : Old X w) (hg : GivesX X l (.slice ao l.length cap) w) (hs : Small l) (hsl : s.length ≤ 1000) :
    Calls Try.prog 16 #[diskV ao l.length cap most room, .int .i64 i, .int .i64 a, .string (bs s)] w fun e w' => ChgX X (writeL l room i a s).1 (writeL l room i a s).2 most room e w w' := by
  have S0 := Lib.hid (St.start (w := w) (G := [(l, .slice ao l.length cap)]) (N := []) hX (one_g hg) no_n)
  have HRET : Hid (∀ (W : World) (cs : Array Value) (fr), W.heap[w.heap.size + 3]? = some (.cells cs 24 fr) → cs.size = 3 → ∀ tmps : Array Value, tmps.getD 8 undef = .pointer (some ⟨w.heap.size + 3, 0, none⟩) → (results Try.f16 tmps).run Try.prog W = .ok (.tuple #[.agg cs, tmps.getD 9 undef]) W) := Lib.hid fun W cs fr h hs tmps ht =>
  results_ct (p := 8) (u := 9) (ty := 24) rfl tmps W (w.heap.size + 3) _ cs fr _ ht h Try.underlying24 rfl (by rw [hs]; kernel_rfl)
  have HR := Lib.hid (edit_w l room i a s)
  have HSm := Lib.hid hs
  have HD := Lib.hid (data_small hs i)
  have hmf : ∀ (fn : Fn) (first cap : Array Value) (w : World), (Instr.makeFunc fn first cap).run Try.prog w = .ok (.func fn first cap) w := fun _ _ _ _ => rfl
  clear hX hg hs
  go_enter Try.func16, Try.ntmps16
  go_upto_region 1 with (fail)
  skip
  refine code_fresh4 ?_
  intro W1 hb hA0 hA1 hA2 hA3 hs
  have S1 := Lib.hid (S0.out.new4 hb hA0 hA1 hA2 hA3)
  clear hb hA0 hA1 hA2 hA3 hs
  obtain ⟨d0, d1, d2⟩ := cells3 (S1.out.at 0 rfl)
  have hA : W1.cell? ⟨w.heap.size + 1, 0, none⟩ = some (.int .i64 a) := by rw [Lib.cell_of_heap (S1.out.at 1 rfl)]; rfl
  have hS : W1.cell? ⟨w.heap.size + 2, 0, none⟩ = some (.string (bs s)) := by rw [Lib.cell_of_heap (S1.out.at 2 rfl)]; rfl
  have HS := Lib.hid hS
  have HA := Lib.hid hA
  have lA := Lib.hid (S1.out.lt (List.mem_of_getElem? (l := _) (i := 1) rfl))
  have lS := Lib.hid (S1.out.lt (List.mem_of_getElem? (l := _) (i := 2) rfl))
  go_wp2_with fail
  refine (pedit_w _ l most room i a (madeW (getL l i).data s a.toNat) _ _ _ _ W1 S1.out.oldX (S1.out.g 0 rfl) HSm.out (fun _ h0 W hb => pwrite1_c _ s a a.toNat _ _ (Int.toNat_of_nonneg h0).symm W ((hb.cell (p := ⟨_, 0, none⟩) lS.out).trans HS.out) ((hb.cell (p := ⟨_, 0, none⟩) lA.out).trans HA.out) (Nat.lt_of_lt_of_le lS.out hb.size) (Nat.lt_of_lt_of_le lA.out hb.size) HD.out hsl) (madeW_len _ s _ HD.out hsl)).mono ?_
  rintro e W2 ⟨ao2, cp2, rfl, hg2, hb⟩
  clear d0 d1 d2
  have S2 := Lib.hid ((S1.out.call hb).addG hg2)
  clear hA hS
  clear hb hg2
  have h_r := (S2.out.at 3 rfl)
  go_wp2_with (first | (refine wpList_store_row rfl 24 _ _ rfl _ rfl rfl h_r rfl (by kernel_rfl) rfl ?_; intro W3 hb hg hs hn; have S3 := Lib.hid (S2.out.set 3 rfl hb hg hs hn); clear hb hg hs hn))
  refine bodyPost_ret (HRET.out _ _ _ (S3.out.at 3 rfl) rfl _ rfl) rfl ?_
  rw [← HR.out]
  exact ⟨_, _, rfl, S3.out.gX 1 rfl, S3.out.bel⟩
set_option maxRecDepth 100000 in
set_option maxHeartbeats 4000000 in
theorem pcut_c (X : Nat → Prop) (l : List NodeL) (most room i m : Int) (ao : Option Addr) (cap : Nat) (w : World) (hX : Old X w) (hg : GivesX X l (.slice ao l.length cap) w) (hs : Small l) :
    Calls Try.prog 18 #[diskV ao l.length cap most room, .int .i64 i, .int .i64 m] w fun e w' => ChgX X (cutL l room i m).1 (cutL l room i m).2 most room e w w' := by
  have S0 := Lib.hid (St.start (w := w) (G := [(l, .slice ao l.length cap)]) (N := []) hX (one_g hg) no_n)
  have HRET : Hid (∀ (W : World) (cs : Array Value) (fr), W.heap[w.heap.size + 2]? = some (.cells cs 24 fr) → cs.size = 3 → ∀ tmps : Array Value, tmps.getD 6 undef = .pointer (some ⟨w.heap.size + 2, 0, none⟩) → (results Try.f18 tmps).run Try.prog W = .ok (.tuple #[.agg cs, tmps.getD 7 undef]) W) := Lib.hid fun W cs fr h hs tmps ht =>
  results_ct (p := 6) (u := 7) (ty := 24) rfl tmps W (w.heap.size + 2) _ cs fr _ ht h Try.underlying24 rfl (by rw [hs]; kernel_rfl)
  have HR := Lib.hid (edit_c l room i m)
  have HSm := Lib.hid hs
  have HD := Lib.hid (data_small hs i)
  have hmf : ∀ (fn : Fn) (first cap : Array Value) (w : World), (Instr.makeFunc fn first cap).run Try.prog w = .ok (.func fn first cap) w := fun _ _ _ _ => rfl
  clear hX hg hs
  go_enter Try.func18, Try.ntmps18
  go_upto_region 1 with (fail)
  refine code_fresh3 ?_
  intro W1 hb hA0 hA1 hA2 hs
  have S1 := Lib.hid (S0.out.new3 hb hA0 hA1 hA2)
  clear hb hA0 hA1 hA2 hs
  obtain ⟨d0, d1, d2⟩ := cells3 (S1.out.at 0 rfl)
  have hA : W1.cell? ⟨w.heap.size + 1, 0, none⟩ = some (.int .i64 m) := by rw [Lib.cell_of_heap (S1.out.at 1 rfl)]; rfl
  have HA := Lib.hid hA
  have lA := Lib.hid (S1.out.lt (List.mem_of_getElem? (l := _) (i := 1) rfl))
  go_wp2_with fail
  refine (pedit_c _ l most room i m (madeC (getL l i).data m.toNat) _ _ _ W1 S1.out.oldX (S1.out.g 0 rfl) HSm.out (fun _ h0 W hb => pcut1_c _ m m.toNat _ (Int.toNat_of_nonneg h0).symm W ((hb.cell (p := ⟨_, 0, none⟩) lA.out).trans HA.out) HD.out) (madeC_len _ _ HD.out)).mono ?_
  rintro e W2 ⟨ao2, cp2, rfl, hg2, hb⟩
  clear d0 d1 d2
  have S2 := Lib.hid ((S1.out.call hb).addG hg2)
  clear hA
  clear hb hg2
  have h_r := (S2.out.at 2 rfl)
  go_wp2_with (first | (refine wpList_store_row rfl 24 _ _ rfl _ rfl rfl h_r rfl (by kernel_rfl) rfl ?_; intro W3 hb hg hs hn; have S3 := Lib.hid (S2.out.set 2 rfl hb hg hs hn); clear hb hg hs hn))
  refine bodyPost_ret (HRET.out _ _ _ (S3.out.at 2 rfl) rfl _ rfl) rfl ?_
  rw [← HR.out]
  exact ⟨_, _, rfl, S3.out.gX 1 rfl, S3.out.bel⟩
theorem pc4 : PC4 where
  read := fun l most room i a n v W hs hg => by
    have h2 := gives_no hg
    obtain ⟨ao, cap, rfl⟩ := gives_form h2
    exact pread_c l most room i a n ao cap W h2 (Nat.le_trans hs.1 (by decide)) (small_names hs)
  size := fun l most room i v W hs hg => by
    have h2 := gives_no hg
    obtain ⟨ao, cap, rfl⟩ := gives_form h2
    exact psize_c l most room i ao cap W h2 (Nat.le_trans hs.1 (by decide)) (small_names hs)
  write := fun l most room i a s ao cap W hs hsl hg => pwrite_c _ l most room i a s ao cap W old_no (gives_no hg) hs hsl
  cut := fun l most room i m ao cap W hs hg => pcut_c _ l most room i m ao cap W old_no (gives_no hg) hs
/-- The program's calls, as the statements take them. -/
theorem pc : PC := pc4.pc
end Go.Proofs.Ythpcldmhamjnbaa
