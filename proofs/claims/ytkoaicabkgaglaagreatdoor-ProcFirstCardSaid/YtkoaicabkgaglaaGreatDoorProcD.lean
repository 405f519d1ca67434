/-
  ProcFirst.
-/
import Derived.Test.YtkoaicabkgaglaaGreatDoorProcC
import Derived.Test.YtkoaicabkgaglaaGreatDoorR31
import Derived.Test.YtkoaicabkgaglaaGreatDoorR38
import Derived.Deep.RegionHeld3
import Derived.Deep.DeepCutAuto
namespace Go.Proofs.YtkoaicabkgaglaaGreatDoor
open Go.RowKit Go.Shelf
attribute [local go_sem ↓] Go.wp_at_zero Go.wp_at_succ

/-- One block alone, of a call's own, and what is read. -/
theorem Sf.alone {X : Nat → Prop} {w W : World} {B : List Bl} {G : List Thing} (h : Sf X w B G W) {G' : List Thing} (j : Nat) {b : Nat} {cs : Array Value} {t : TypeId} (hj : B[j]? = some (b, cs, t)) (hG : ∀ P ∈ G', Firm P ∧ P (Xo X (B.map (·.1))) W) : Sf X w [(b, cs, t)] G' W :=
  ⟨h.bel, h.old, fun x hx => by rw [List.mem_singleton] at hx; subst hx; exact h.blk _ (List.mem_of_getElem? hj), by simp, fun P hP => ⟨(hG P hP).1, (hG P hP).1.sub (hG P hP).2 fun g hg => hg.elim .inl fun h1 => .inr (by
    rw [List.map_cons, List.map_nil, List.mem_singleton] at h1
    subst h1
    exact List.mem_map.2 ⟨_, List.mem_of_getElem? hj, rfl⟩)⟩⟩
theorem Sf.th {X : Nat → Prop} {w W : World} {B : List Bl} {G : List Thing} (h : Sf X w B G W) (j : Nat) {P : Thing} (hj : G[j]? = some P) : Firm P ∧ P (Xo X (B.map (·.1))) W := h.gv P (List.mem_of_getElem? hj)
theorem th3' {P Q R : Thing} {X : Nat → Prop} {W : World} (hp : Firm P ∧ P X W) (hq : Firm Q ∧ Q X W) (hr : Firm R ∧ R X W) : ∀ T ∈ [P, Q, R], Firm T ∧ T X W := fun T hT => by
  simp only [List.mem_cons, List.not_mem_nil, or_false] at hT
  rcases hT with rfl | rfl | rfl <;> assumption
theorem ComeK.small {i : Nat} {k : KernL} (h : ComeK i k) : Small k.l := small_disk h.rig (h.siz.mono (by decide))
theorem ComeK.sizeT {i : Nat} {k : KernL} (h : ComeK i k) : SizeT k.t := size_tab h.rig (h.siz.mono (by decide))
theorem ComeK.opn {i : Nat} {k : KernL} (h : ComeK i k) : 0 ≤ (nd k.l 0).opn ∧ (nd k.l 0).opn ≤ 100000 := by
  have h1 := h.rig.opn 0 (by rw [h.dir]; decide)
  have h2 : opensD k.t.ds ((0 : Nat) : Int) ≤ k.t.ds.length := List.countP_le_length
  have h3 : opensP k.ps ((0 : Nat) : Int) ≤ k.ps.length := List.countP_le_length
  have h4 := h.siz.2.2.2
  have h5 := h.rig.procs
  have h6 : opensN k ((0 : Nat) : Int) = opensD k.t.ds ((0 : Nat) : Int) + opensP k.ps ((0 : Nat) : Int) := rfl
  omega
theorem last_at (ps : List ProcL) (x : ProcL) : ∀ (l : List ProcL) (_ : l = ps ++ [x]) (h : ps.length < l.length), l[ps.length] = x := by
  rintro _ rfl h
  simp
theorem come_last (k : KernL) (who um i : Int) {n : Nat} (hn : k.ps.length = n) : ∀ h : n < (comeK k who um i).ps.length, (comeK k who um i).ps[n] = newP who um i := by
  subst hn
  exact fun h => last_at k.ps _ _ rfl h
set_option maxRecDepth 100000 in
set_option maxHeartbeats 4000000 in
theorem procfirst_l (S : Nat → Addr) (a b c who : Int) (w : World) (hE : Env S w) (ha : 0 ≤ a ∧ a < 256) (hb : 0 ≤ b ∧ b < 256) (hc : 0 ≤ c ∧ c < 256) :
    Calls Tryz.prog 3 #[.int .u8 a, .int .u8 b, .int .u8 c, .int .i64 who] w fun e w' => e = .returned (.bool true) ∧ Below w.heap.size w w' := by
  have S0 := Lib.hid (Sf.start (w := w) (X := fun _ => False) (G := [EnvX S]) (fun _ h => h.elim) (th1 (EnvX.firm _) (EnvX.none hE)))
  obtain ⟨M, hM⟩ : ∃ M, M = 1 + a.tmod 100 := ⟨_, rfl⟩
  obtain ⟨D, hD⟩ : ∃ D, D = c.tmod 64 := ⟨_, rfl⟩
  have t1 := Int.tmod_nonneg 100 ha.1
  have t2 := Int.tmod_lt_of_pos a (show (0 : Int) < 100 by decide)
  have t3 := Int.tmod_nonneg 64 hc.1
  have t4 := Int.tmod_lt_of_pos c (show (0 : Int) < 64 by decide)
  have HM : Hid (1 ≤ M ∧ M ≤ 100) := Lib.hid (by omega)
  have HD : Hid (0 ≤ D ∧ D ≤ 63) := Lib.hid (by omega)
  have HB : Hid (0 ≤ b ∧ b ≤ 1000) := Lib.hid (by omega)
  have wa : IntKind.i64.wrap a = a := Go.IntWalk.i64_in _ ⟨by omega, by omega⟩
  have wb : IntKind.i64.wrap b = b := Go.IntWalk.i64_in _ ⟨by omega, by omega⟩
  have wc : IntKind.i64.wrap c = c := Go.IntWalk.i64_in _ ⟨by omega, by omega⟩
  have wM : IntKind.i64.wrap (1 + a.tmod 100) = M := by rw [hM]; exact Go.IntWalk.i64_in _ ⟨by omega, by omega⟩
  have wD : c.tmod 64 = D := hD.symm
  clear hE ha hb hc hM hD t1 t2 t3 t4
  go_enter Tryz.func3, Tryz.ntmps3
  go_wp2_with fail
  refine (pboot_c _ M b D w S0.out.oldX HM.out.1 HM.out.2 HB.out.1 HB.out.2 HD.out.1 HD.out.2).mono ?_
  rintro e W1 ⟨ao, co, ad, cd, af, cf, ap, cp, rfl, hd, ht, hp, hb⟩
  have S1 := Lib.hid ((((S0.out.call hb).more (DiskX.firm _ _) hd).more (TabX.firm _ _ _) ht).more (PsX.firm _ _) hp)
  obtain ⟨k0, hk0⟩ : ∃ k0, k0 = firstK M b D := ⟨_, rfl⟩
  have HK0 : Hid (ComeK 0 k0) := Lib.hid (by rw [hk0]; exact first_come HM.out.1 HM.out.2 HB.out.1 HB.out.2 HD.out.1 HD.out.2)
  rw [← hk0] at S1 ⊢
  clear hk0 hd ht hp hb
  go_upto_region 2 with (first | (refine wpList_fresh1 ?_; intro W2 hb hn hs; have S2 := Lib.hid (S1.out.new1 hb hn); have h_k := S2.out.at 0 rfl; clear hb hn hs) | (refine wpList_store_row rfl 31 _ _ rfl _ rfl rfl h_k rfl (by kernel_rfl) rfl ?_; intro W3 hb hg hs hn; have S3 := Lib.hid (S2.out.set 0 rfl hb hg hs hn); clear hb hg hs hn))
  clear h_k
  obtain ⟨bk, hbk⟩ : ∃ bk, bk = W1.heap.size := ⟨_, rfl⟩
  rw [← hbk] at S3 ⊢
  clear hbk
  have h_k := (S3.out.at 0 rfl)
  go_wp2_with (first | (refine wpList_load_row rfl 31 _ rfl _ rfl 31 _ (0, 0) _ h_k Tryz.underlying31 rfl (by kernel_rfl) ?_))
  refine (pRight_c k0 _ _ _ _ _ _ _ _ W3 (S3.out.g 1 rfl) (S3.out.g 2 rfl) (S3.out.g 3 rfl) HK0.out.sizeT HK0.out.small (fitD_right HK0.out.rig.rightP) (Nat.le_trans HK0.out.rig.procs (by decide))).mono ?_
  rintro e W4 ⟨rfl, hb⟩
  rw [(right_K k0).2 HK0.out.rig]
  clear h_k
  have S4 := Lib.hid (S3.out.call hb)
  clear hb
  go_wp2_with fail
  refine (shown_c _ S W4 S4.out.oldX (S4.out.g 0 rfl)).mono ?_
  rintro e W5 ⟨rfl, hb⟩
  have S5 := Lib.hid (S4.out.call hb)
  clear hb S0 S1 S2 S3 S4
  go_wp2_with fail
  go_loopw [10] (fun i wr => ∃ (n : Nat) (k : KernL) (ao ad af ap : Option Addr) (co cd cf cp : Nat), i = .int .i64 n ∧ n ≤ 8 ∧ Hid (ComeK n k) ∧ Hid (Sf (fun _ => False) w [(bk, #[.slice ao k.l.length co, .int .i64 k.most, .int .i64 k.room, .slice ad k.t.ds.length cd, .slice af k.t.fs.length cf, .slice ap k.ps.length cp], 31)] [DiskX k.l (.slice ao k.l.length co), TabX k.t (.slice ad k.t.ds.length cd) (.slice af k.t.fs.length cf), PsX k.ps (.slice ap k.ps.length cp)] wr)) (fun i _ => 8 - (RowKit.intOf i).toNat)
  case atStart => exact ⟨0, k0, ao, ad, af, ap, co, cd, cf, cp, rfl, by decide, HK0, Lib.hid (S5.out.alone 0 rfl (th3' (S5.out.th 1 rfl) (S5.out.th 2 rfl) (S5.out.th 3 rfl)))⟩
  case round =>
    clear S5 HK0
    obtain ⟨n, k, ao1, ad1, af1, ap1, co1, cd1, cf1, cp1, rfl, hn, HK, HS⟩ := hrel
    have h_k := (HS.out.at 0 rfl)
    by_cases hlt : n < 8
    · have i8 : decide ((n : Int) < 8) = true := decide_eq_true (by omega)
      go_wp2_with (first | (refine wpList_load_row rfl 31 _ rfl _ rfl 31 _ (0, 0) _ h_k Tryz.underlying31 rfl (by kernel_rfl) ?_))
      refine (pspawn_c _ k _ _ _ _ _ _ _ _ who D 0 0 _ HS.out.oldX (HS.out.g 0 rfl) (HS.out.g 1 rfl) (HS.out.g 2 rfl) rfl (by rw [HK.out.len]; exact hlt) HD.out.1 HD.out.2 HK.out.dir HK.out.small HK.out.opn.1 HK.out.opn.2).mono ?_
      rintro e W6 ⟨ao2, co2, ad2, cd2, af2, cf2, ap2, cp2, rfl, hd, ht, hp, hb⟩
      clear h_k
      have S6 := Lib.hid ((((HS.out.call hb).more (DiskX.firm _ _) hd).more (TabX.firm _ _ _) ht).more (PsX.firm _ _) hp)
      obtain ⟨k2, hk2⟩ : ∃ k2, k2 = comeK k who D 0 := ⟨_, rfl⟩
      have HK2 : Hid (ComeK (n + 1) k2) := Lib.hid (by rw [hk2]; exact HK.out.next hlt HD.out.1 HD.out.2)
      have HLA : Hid (∀ h : n < k2.ps.length, k2.ps[n] = newP who D 0) := Lib.hid (by rw [hk2]; exact come_last k who D 0 HK.out.len)
      rw [← hk2] at S6 ⊢
      rw [HK.out.len]
      clear hk2 hd ht hp hb
      go_upto_region 8 with (first | (refine wpList_fresh1 ?_; intro W7 hb hn hs; have S7 := Lib.hid (S6.out.new1 hb hn); have h_a := S7.out.at 1 rfl; clear hb hn hs) | (refine wpList_store_row rfl 31 _ _ rfl _ rfl rfl h_a rfl (by kernel_rfl) rfl ?_; intro W8 hb hg hs hn; have S8 := Lib.hid (S7.out.set 1 rfl hb hg hs hn); clear hb hg hs hn))
      clear h_a
      obtain ⟨ba, hba⟩ : ∃ ba, ba = W6.heap.size := ⟨_, rfl⟩
      rw [← hba] at S8 ⊢
      clear hba
      have h_a := (S8.out.at 1 rfl)
      have nn : decide (n = n) = true := decide_eq_true rfl
      go_wp2_with (first | (refine wpList_load_row rfl 31 _ rfl _ rfl 31 _ (0, 0) _ h_a Tryz.underlying31 rfl (by kernel_rfl) ?_) | (refine wpList_load_rowG rfl 31 _ rfl _ rfl 31 _ (0, 0) _ h_a Tryz.underlying31 rfl (by kernel_rfl) ?_))
      refine (stays12_c _ k2 _ _ _ _ _ _ _ _ W8 S8.out.oldX (S8.out.g 3 rfl) (S8.out.g 4 rfl) (S8.out.g 5 rfl) HK2.out.rig (HK2.out.siz.mono (by decide))).mono ?_
      rintro e W9 ⟨rfl, hb⟩
      clear h_a
      have S9 := Lib.hid (S8.out.call hb)
      clear hb
      have hl2 := HK2.out.len
      obtain ⟨bp, offp, eap, c0, -, -, c3⟩ := PsX.proc (S9.out.g 5 rfl) n (by omega)
      subst eap
      rw [HLA.out (by omega)] at c0 c3
      dsimp only [newP] at c0 c3
      obtain ⟨-, -, -, -, -, a5⟩ := cells6 (S9.out.at 1 rfl)
      rw [hl2] at a5
      have wn : IntKind.i64.wrap ((n : Int) + 1) = (n : Int) + 1 := Go.IntWalk.i64_in _ ⟨by omega, by omega⟩
      have n0 : (0 : Int) ≤ (n : Int) := by omega
      have n1 : (n : Int) < ((n + 1 : Nat) : Int) := by omega
      go_upto_region 10 with (fail)
      clear a5 c0 c3 n0 n1 nn
      have h_a := (S9.out.at 1 rfl)
      have h_k := (S9.out.at 0 rfl)
      go_wp2_with (first | (refine wpList_load_row rfl 31 _ rfl _ rfl 31 _ (0, 0) _ h_a Tryz.underlying31 rfl (by kernel_rfl) ?_) | (refine wpList_store_row rfl 31 _ _ rfl _ rfl rfl h_k rfl (by kernel_rfl) rfl ?_; intro W10 hb hg hs hn; have S10 := Lib.hid (S9.out.set 0 rfl hb hg hs hn); clear hb hg hs hn))
      go_round
      case rel => exact ⟨n + 1, k2, ao2, ad2, af2, _, co2, cd2, cf2, cp2, (by go_num), (by omega), HK2, Lib.hid (S10.out.alone 0 rfl (th3' (S10.out.th 3 rfl) (S10.out.th 4 rfl) (S10.out.th 5 rfl)))⟩
      case measure => simp [RowKit.intOf]; omega
    · have hn8 : n = 8 := by omega
      subst hn8
      clear hlt hn
      go_wp2_with (first | (refine wpList_load_row rfl 31 _ rfl _ rfl 31 _ (0, 0) _ h_k Tryz.underlying31 rfl (by kernel_rfl) ?_))
      refine (pspawn_no _ k _ _ _ _ _ _ _ _ who 0 0 _ HS.out.oldX (HS.out.g 0 rfl) (HS.out.g 1 rfl) (HS.out.g 2 rfl) (by rw [HK.out.len]; decide)).mono ?_
      rintro e W6 ⟨ao2, co2, ad2, cd2, af2, cf2, ap2, cp2, rfl, -, -, -, hb⟩
      clear h_k
      have S6 := Lib.hid (HS.out.call hb)
      clear hb
      go_upto_region 12 with (first | (refine wpList_fresh1 ?_; intro W7 hb hn hs; have S7 := Lib.hid (S6.out.new1 hb hn); have h_a := S7.out.at 1 rfl; clear hb hn hs) | (refine wpList_store_row rfl 31 _ _ rfl _ rfl rfl h_a rfl (by kernel_rfl) rfl ?_; intro W8 hb hg hs hn; have S8 := Lib.hid (S7.out.set 1 rfl hb hg hs hn); clear hb hg hs hn))
      go_wp2_with fail
      go_ret
      exact ⟨rfl, S8.out.bel⟩
theorem u8_in {z : Int} (h : (Lit.int .u8 z).wf = true) : 0 ≤ z ∧ z < 256 := by
  have hb : 0 ≤ z ∧ z ≤ 255 := by simpa [Lit.wf, IntKind.min, IntKind.max, IntKind.signed, IntKind.bits] using h
  omega
end Go.Proofs.YtkoaicabkgaglaaGreatDoor
