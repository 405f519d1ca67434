/-
  ProcStays.
-/
import Derived.Test.YtgbmmcnadmfikaaGreatDoorR41
import Derived.Test.YtgbmmcnadmfikaaGreatDoorR47
import Derived.Test.YtgbmmcnadmfikaaGreatDoorR39
import Derived.Test.YtgbmmcnadmfikaaGreatDoorR37
import Derived.Deep.RegionHeld3
import Derived.Deep.DeepCutAuto
namespace Go.Proofs.YtgbmmcnadmfikaaGreatDoor
open Go.RowKit Go.Shelf
attribute [local go_sem ↓] Go.wp_at_zero Go.wp_at_succ

/-- What Kill leaves: a kernel as it was, or with one process dead. -/
def killedK (k : KernL) (p : Int) : KernL := if liveB k.ps p = true then killK (closeN k p 8) p else k
theorem pkill_any (X : Nat → Prop) (S : Nat → Addr) (k : KernL) (p : Int) (ao ad af ap : Option Addr) (co cd cf cp : Nat) (c0 : Nat) (w : World) (hX : Old X w) (hD : DiskX k.l (.slice ao k.l.length co) X w) (hT : TabX k.t (.slice ad k.t.ds.length cd) (.slice af k.t.fs.length cf) X w) (hP : PsX k.ps (.slice ap k.ps.length cp) X w) (hE : EnvX S X w) (hk : KSt c0 k) (hc : c0 ≤ 120) :
    Calls Tryz.prog 8 #[.agg #[.slice ao k.l.length co, .int .i64 k.most, .int .i64 k.room, .slice ad k.t.ds.length cd, .slice af k.t.fs.length cf, .slice ap k.ps.length cp], .int .i64 p] w fun e w' => ∃ er, KillIs X (killedK k p) er e w w' := by
  unfold killedK
  by_cases hl : liveB k.ps p = true
  · rw [if_pos hl]
    obtain ⟨a, ha, rfl, _, _⟩ := live_in hl
    exact (pkill_c X S k a ao ad af ap co cd cf cp c0 w hX hD hT hP hE hk hc hl).mono fun e w' h => ⟨_, h⟩
  · rw [if_neg hl]
    exact (pkill_no X k p ao ad af ap co cd cf cp w hX hD hT hP (by simpa using hl)).mono fun e w' h => ⟨_, h⟩
theorem kst_came {c : Nat} {k : KernL} (h : KSt c k) (who um I : Int) : KSt c (cameK k who um I) := by
  unfold cameK
  split
  · rename_i hh
    obtain ⟨h8, hu, hk⟩ := hh
    obtain ⟨j, rfl, _, hj⟩ := got_nat (kind_got (i := I) (by rw [hk]; decide))
    have hk2 : (nd k.l j).kind = 2 := by rw [nodeL_nd hj] at hk; exact hk
    exact ⟨right_come h.rig h8 hk2 hu.1 hu.2, size_come h.siz _ _ _, h.pos⟩
  · exact h
theorem kst_killed {c : Nat} {k : KernL} (h : KSt c k) (p : Int) : KSt c (killedK k p) := by
  unfold killedK
  split
  · rename_i hl
    obtain ⟨a, ha, rfl, _, _⟩ := live_in hl
    have hs := shut_all h hl 8 (Nat.le_refl _)
    obtain ⟨m, hm⟩ : ∃ m, m = closeN k (a : Int) 8 := ⟨_, rfl⟩
    rw [← hm] at hs ⊢
    exact ⟨right_killed hs.st.rig (by rw [hs.ps]; exact hl) (shut_count hs), size_killed hs.st.siz _, hs.st.pos⟩
  · exact h
theorem kst_opn {c : Nat} {k : KernL} (h : KSt c k) (hc : c ≤ 1000) : ∀ i : Nat, (nd k.l i).kind ≠ 0 → 0 ≤ (nd k.l i).opn ∧ (nd k.l i).opn ≤ 100000 := fun i hi => by
  have h1 := h.rig.opn i hi
  have h2 : opensD k.t.ds (i : Int) ≤ k.t.ds.length := List.countP_le_length
  have h3 : opensP k.ps (i : Int) ≤ k.ps.length := List.countP_le_length
  have h4 := h.siz.2.2.2
  have h5 := h.rig.procs
  have h6 : opensN k (i : Int) = opensD k.t.ds (i : Int) + opensP k.ps (i : Int) := rfl
  omega
set_option maxRecDepth 100000 in
set_option maxHeartbeats 4000000 in
theorem procstays_l (S : Nat → Addr) (k : KernL) (ao ad af ap : Option Addr) (co cd cf cp : Nat) (who um I p : Int) (w : World) (hE : Env S w) (hD : DiskX k.l (.slice ao k.l.length co) (fun _ => False) w) (hT : TabX k.t (.slice ad k.t.ds.length cd) (.slice af k.t.fs.length cf) (fun _ => False) w) (hP : PsX k.ps (.slice ap k.ps.length cp) (fun _ => False) w) (hf : FitD k.l) (hpos : PosD k.t.ds) :
    Calls Tryz.prog 3 #[.agg #[.slice ao k.l.length co, .int .i64 k.most, .int .i64 k.room, .slice ad k.t.ds.length cd, .slice af k.t.fs.length cf, .slice ap k.ps.length cp], .int .i64 who, .int .i64 um, .int .i64 I, .int .i64 p] w fun e w' => e = .returned (.bool true) ∧ Below w.heap.size w w' := by
  have S0 := Lib.hid (Sf.start (w := w) (X := fun _ => False) (G := [DiskX k.l (.slice ao k.l.length co), TabX k.t (.slice ad k.t.ds.length cd) (.slice af k.t.fs.length cf), PsX k.ps (.slice ap k.ps.length cp), EnvX S]) (fun _ h => h.elim) (th4 (DiskX.firm _ _) hD (TabX.firm _ _ _) hT (PsX.firm _ _) hP (EnvX.firm _) (EnvX.none hE)))
  have HFD := Lib.hid hf
  have HPOS := Lib.hid hpos
  clear hD hT hP hE hf hpos
  go_enter Tryz.func3, Tryz.ntmps3
  go_upto_region 1 with (fail)
  refine code_fresh1 ?_
  intro W1 hb hA0 hs
  have S1 := Lib.hid (S0.out.new1 hb hA0)
  clear hb hA0 hs S0
  have h_k := (S1.out.at 0 rfl)
  go_wp2_with (first | (refine wpList_load_row rfl 31 _ rfl _ rfl 31 _ (0, 0) _ h_k Tryz.underlying31 rfl (by kernel_rfl) ?_))
  refine (sound_c _ k _ _ _ _ _ _ _ _ W1 S1.out.oldX (S1.out.g 0 rfl) (S1.out.g 1 rfl) (S1.out.g 2 rfl) HFD.out).mono ?_
  rintro e W2 ⟨b, rfl, hsm, hb⟩
  clear h_k
  have S2 := Lib.hid (S1.out.call hb)
  have HSM := Lib.hid hsm
  clear hsm hb S1
  cases b with
  | false =>
    go_wp2_with fail
    go_wp2_with fail
    refine (shown_c _ S W2 S2.out.oldX (S2.out.g 3 rfl)).mono ?_
    rintro e W3 ⟨rfl, hb⟩
    have S3 := Lib.hid (S2.out.call hb)
    clear hb
    go_wp2_with fail
    go_ret
    exact ⟨by first | rfl | simp, S3.out.bel⟩
  | true =>
    have HK : Hid (KSt 100 k) := Lib.hid ⟨(HSM.out rfl).2, (HSM.out rfl).1.siz, HPOS.out⟩
    clear HSM
    go_wp2_with fail
    refine (shown_c _ S W2 S2.out.oldX (S2.out.g 3 rfl)).mono ?_
    rintro e W3 ⟨rfl, hb⟩
    have S3 := Lib.hid (S2.out.call hb)
    clear hb S2
    go_upto_region 3 with (fail)
    have h_k := (S3.out.at 0 rfl)
    go_wp2_with (first | (refine wpList_load_row rfl 31 _ rfl _ rfl 31 _ (0, 0) _ h_k Tryz.underlying31 rfl (by kernel_rfl) ?_))
    refine (pspawn_any _ k _ _ _ _ _ _ _ _ who um I W3 S3.out.oldX (S3.out.g 0 rfl) (S3.out.g 1 rfl) (S3.out.g 2 rfl) (small_disk HK.out.rig (HK.out.siz.mono (by decide))) (kst_opn HK.out (by decide))).mono ?_
    rintro e W4 ⟨n4, er4, ao4, co4, ad4, cd4, af4, cf4, ap4, cp4, rfl, hd, ht, hp, hb⟩
    have S4 := Lib.hid ((((S3.out.call hb).more (DiskX.firm _ _) hd).more (TabX.firm _ _ _) ht).more (PsX.firm _ _) hp)
    obtain ⟨ka, hka⟩ : ∃ ka, ka = cameK k who um I := ⟨_, rfl⟩
    have HKA : Hid (KSt 100 ka) := Lib.hid (by rw [hka]; exact kst_came HK.out _ _ _)
    rw [← hka] at S4 ⊢
    clear hka hd ht hp hb h_k S3
    go_upto_region 4 with (first | (refine wpList_fresh1 ?_; intro W5 hb hn hs; have S5 := Lib.hid (S4.out.new1 hb hn); have h_a := S5.out.at 1 rfl; clear hb hn hs) | (refine wpList_store_row rfl 31 _ _ rfl _ rfl rfl h_a rfl (by kernel_rfl) rfl ?_; intro W6 hb hg hs hn; have S6 := Lib.hid (S5.out.set 1 rfl hb hg hs hn); clear hb hg hs hn))
    clear h_a S4 S5
    obtain ⟨ba, hba⟩ : ∃ ba, ba = W4.heap.size := ⟨_, rfl⟩
    rw [← hba] at S6 ⊢
    clear hba
    have h_k := (S6.out.at 0 rfl)
    go_wp2_with (first | (refine wpList_load_row rfl 31 _ rfl _ rfl 31 _ (0, 0) _ h_k Tryz.underlying31 rfl (by kernel_rfl) ?_))
    refine (pkill_any _ S k p _ _ _ _ _ _ _ _ 100 W6 S6.out.oldX (S6.out.g 0 rfl) (S6.out.g 1 rfl) (S6.out.g 2 rfl) (S6.out.g 3 rfl) HK.out (by decide)).mono ?_
    rintro e W7 ⟨er7, ao7, co7, ad7, cd7, af7, cf7, ap7, cp7, rfl, hd, ht, hp, hb⟩
    have S7 := Lib.hid ((((S6.out.call hb).more (DiskX.firm _ _) hd).more (TabX.firm _ _ _) ht).more (PsX.firm _ _) hp)
    obtain ⟨kb, hkb⟩ : ∃ kb, kb = killedK k p := ⟨_, rfl⟩
    have HKB : Hid (KSt 100 kb) := Lib.hid (by rw [hkb]; exact kst_killed HK.out _)
    rw [← hkb] at S7 ⊢
    clear hkb hd ht hp hb h_k S6
    go_upto_region 5 with (first | (refine wpList_fresh1 ?_; intro W8 hb hn hs; have S8 := Lib.hid (S7.out.new1 hb hn); have h_a := S8.out.at 2 rfl; clear hb hn hs) | (refine wpList_store_row rfl 31 _ _ rfl _ rfl rfl h_a rfl (by kernel_rfl) rfl ?_; intro W9 hb hg hs hn; have S9 := Lib.hid (S8.out.set 2 rfl hb hg hs hn); clear hb hg hs hn))
    clear h_a S7 S8
    obtain ⟨bb, hbb⟩ : ∃ bb, bb = W7.heap.size := ⟨_, rfl⟩
    rw [← hbb] at S9 ⊢
    clear hbb
    have h_k := (S9.out.at 1 rfl)
    go_wp2_with (first | (refine wpList_load_row rfl 31 _ rfl _ rfl 31 _ (0, 0) _ h_k Tryz.underlying31 rfl (by kernel_rfl) ?_))
    refine (pkill_any _ S ka p _ _ _ _ _ _ _ _ 100 W9 S9.out.oldX (S9.out.g 4 rfl) (S9.out.g 5 rfl) (S9.out.g 6 rfl) (S9.out.g 3 rfl) HKA.out (by decide)).mono ?_
    rintro e W10 ⟨er10, ao10, co10, ad10, cd10, af10, cf10, ap10, cp10, rfl, hd, ht, hp, hb⟩
    have S10 := Lib.hid ((((S9.out.call hb).more (DiskX.firm _ _) hd).more (TabX.firm _ _ _) ht).more (PsX.firm _ _) hp)
    obtain ⟨kc, hkc⟩ : ∃ kc, kc = killedK ka p := ⟨_, rfl⟩
    have HKC : Hid (KSt 100 kc) := Lib.hid (by rw [hkc]; exact kst_killed HKA.out _)
    rw [← hkc] at S10 ⊢
    clear hkc hd ht hp hb h_k S9
    go_upto_region 6 with (first | (refine wpList_fresh1 ?_; intro W11 hb hn hs; have S11 := Lib.hid (S10.out.new1 hb hn); have h_a := S11.out.at 3 rfl; clear hb hn hs) | (refine wpList_store_row rfl 31 _ _ rfl _ rfl rfl h_a rfl (by kernel_rfl) rfl ?_; intro W12 hb hg hs hn; have S12 := Lib.hid (S11.out.set 3 rfl hb hg hs hn); clear hb hg hs hn))
    clear h_a S10 S11
    have h_k := (S12.out.at 1 rfl)
    go_wp2_with (first | (refine wpList_load_row rfl 31 _ rfl _ rfl 31 _ (0, 0) _ h_k Tryz.underlying31 rfl (by kernel_rfl) ?_) | (refine wpList_load_rowG rfl 31 _ rfl _ rfl 31 _ (0, 0) _ h_k Tryz.underlying31 rfl (by kernel_rfl) ?_))
    refine (stays12_c _ ka _ _ _ _ _ _ _ _ W12 S12.out.oldX (S12.out.g 4 rfl) (S12.out.g 5 rfl) (S12.out.g 6 rfl) HKA.out.rig (HKA.out.siz.mono (by decide))).mono ?_
    rintro e W13 ⟨rfl, hb⟩
    have S13 := Lib.hid (S12.out.call hb)
    clear hb h_k S12
    have h_k := (S13.out.at 2 rfl)
    go_wp2_with (first | (refine wpList_load_row rfl 31 _ rfl _ rfl 31 _ (0, 0) _ h_k Tryz.underlying31 rfl (by kernel_rfl) ?_) | (refine wpList_load_rowG rfl 31 _ rfl _ rfl 31 _ (0, 0) _ h_k Tryz.underlying31 rfl (by kernel_rfl) ?_))
    refine (stays12_c _ kb _ _ _ _ _ _ _ _ W13 S13.out.oldX (S13.out.g 7 rfl) (S13.out.g 8 rfl) (S13.out.g 9 rfl) HKB.out.rig (HKB.out.siz.mono (by decide))).mono ?_
    rintro e W14 ⟨rfl, hb⟩
    have S14 := Lib.hid (S13.out.call hb)
    clear hb h_k S13
    have h_k := (S14.out.at 3 rfl)
    go_wp2_with (first | (refine wpList_load_row rfl 31 _ rfl _ rfl 31 _ (0, 0) _ h_k Tryz.underlying31 rfl (by kernel_rfl) ?_) | (refine wpList_load_rowG rfl 31 _ rfl _ rfl 31 _ (0, 0) _ h_k Tryz.underlying31 rfl (by kernel_rfl) ?_))
    refine (stays12_c _ kc _ _ _ _ _ _ _ _ W14 S14.out.oldX (S14.out.g 10 rfl) (S14.out.g 11 rfl) (S14.out.g 12 rfl) HKC.out.rig (HKC.out.siz.mono (by decide))).mono ?_
    rintro e W15 ⟨rfl, hb⟩
    have S15 := Lib.hid (S14.out.call hb)
    clear hb h_k S14
    go_wp2_with fail
    go_ret
    exact ⟨by first | rfl | simp, S15.out.bel⟩
end Go.Proofs.YtgbmmcnadmfikaaGreatDoor
