/-
  Any number may share; who shares alone may have it alone: FlockShares.
-/
import Derived.Test.YtfcjmcenaankfaaLaw11A
import Derived.Test.YtfcjmcenaankfaaFlkLaws2
namespace Go.Proofs.Ytfcjmcenaankfaa
open Go.RowKit Go.Shelf
attribute [local go_sem ↓] Go.wp_at_zero Go.wp_at_succ

theorem node_no1 {ino : Int} {j : Nat} {d : DescL} (h : ¬ 0 < d.refs) : nodeQ ino j d = false := by unfold nodeQ; rw [decide_eq_false h]; rfl
theorem node_no2 {ino : Int} {j : Nat} {d : DescL} (h : d.ino ≠ ino) : nodeQ ino j d = false := by unfold nodeQ; rw [decide_eq_false h]; simp
/-- The last one that shares. -/
def LastT (t : TabL) (ino : Int) (k : Nat) (la : Int) : Prop := nodeN (t.ds.take k) ino = 0 ∨ ∃ m : Nat, ∃ h : m < t.ds.length, la = (m : Int) ∧ nodeQ ino m t.ds[m] = true
theorem last_skip {t : TabL} {ino : Int} {k : Nat} {la : Int} (h : LastT t ino k la) (hk : k < t.ds.length) (hq : nodeQ ino k t.ds[k] = false) : LastT t ino (k + 1) la := by
  unfold LastT
  rw [nodeN_next _ _ hk, hq]
  exact h
theorem last_now {t : TabL} {ino : Int} {k : Nat} (hk : k < t.ds.length) (hq : nodeQ ino k t.ds[k] = true) : LastT t ino (k + 1) (k : Int) := .inr ⟨k, hk, rfl, hq⟩
set_option maxRecDepth 100000 in
set_option maxHeartbeats 4000000 in
theorem shares_l (pc : PF) (t : TabL) (ino : Int) (ad af : Option Addr) (cap capf : Nat) (w : World) (hT : TabX t (.slice ad t.ds.length cap) (.slice af t.fs.length capf) (fun _ => False) w) :
    Calls Try.prog 7 #[tabV ad t.ds.length cap af t.fs.length capf, .int .i64 ino] w fun e w' => e = .returned (.bool true) ∧ Below w.heap.size w w' := by
  have S0 := Lib.hid (Sf.start (G := [TabX t (.slice ad t.ds.length cap) (.slice af t.fs.length capf)]) (fun _ h => h.elim) (th1 (TabX.firm _ _ _) hT))
  clear hT
  go_enter Try.func7, Try.ntmps7
  go_upto_region 1 with (fail)
  refine code_fresh1 ?_
  intro W1 hb hA0 hs
  have S1 := Lib.hid (S0.out.new1 hb hA0)
  clear hb hA0 hs
  have h_d := (S1.out.at 0 rfl)
  go_wp2_with (first | (refine wpList_load_row rfl 25 _ rfl _ rfl 25 _ (0, 0) _ h_d Try.underlying25 rfl (by kernel_rfl) ?_) | (refine wpList_load_rowG rfl 25 _ rfl _ rfl 25 _ (0, 0) _ h_d Try.underlying25 rfl (by kernel_rfl) ?_))
  refine (fine_c _ t _ _ _ _ _ S1.out.oldX (S1.out.g 0 rfl)).mono ?_
  rintro e W2 ⟨rfl, hb⟩
  clear h_d
  have S2 := Lib.hid (S1.out.call hb)
  clear hb
  cases hfb : fineB t with
  | false =>
    clear hfb
    go_wp2_with fail
    refine (pc.shown W2).mono ?_
    rintro e W3 ⟨rfl, hb⟩
    have S3 := Lib.hid (S2.out.call hb)
    clear hb
    go_wp2_with fail
    go_ret
    exact ⟨rfl, S3.out.bel⟩
  | true =>
    have HFB := Lib.hid (fine_B.1 hfb)
    have HSZ := Lib.hid (size_T HFB.out.1 (by decide))
    clear hfb
    go_wp2_with fail
    refine (pc.shown W2).mono ?_
    rintro e W3 ⟨rfl, hb⟩
    have S3 := Lib.hid (S2.out.call hb)
    clear hb
    go_wp2_with fail
    go_loopw [7] (fun j wr => ∃ (k : Nat) (tk : TabL) (adk afk : Option Addr) (capk capfk : Nat), j = .int .i64 k ∧ k ≤ t.ds.length ∧ Hid (MapT (nodeQ ino) 0 t k tk ∧ RightT tk ∧ SizeM 100 tk) ∧ Hid (Sf (fun _ => False) w [(w.heap.size, #[.slice adk tk.ds.length capk, .slice afk tk.fs.length capfk], 25)] [TabX tk (.slice adk tk.ds.length capk) (.slice afk tk.fs.length capfk)] wr)) (fun j _ => t.ds.length - (RowKit.intOf j).toNat)
    case atStart => exact ⟨0, t, ad, af, cap, capf, rfl, Nat.zero_le _, Lib.hid ⟨map_zero _ _ _, HFB.out.2, HFB.out.1⟩, Lib.hid ((S3.out.leave (B' := [(w.heap.size, #[.slice ad t.ds.length cap, .slice af t.fs.length capf], 25)]) (by simp)).less (by simp))⟩
    case round =>
      clear S3
      obtain ⟨k, tk, adk, afk, capk, capfk, rfl, hk, HM, S9⟩ := hrel
      have hl1 : t.ds.length ≤ 1000 := HSZ.out.1
      have HLK := Lib.hid (HM.out.1.len)
      have HZK := Lib.hid (size_T HM.out.2.2 (by decide))
      by_cases hlt : k < t.ds.length
      · have hkt : k < tk.ds.length := by rw [HLK.out]; exact hlt
        have iL7 : decide (k < tk.ds.length) = true := decide_eq_true (by omega)
        have iM7 : decide ((k : Int) < (tk.ds.length : Int)) = true := decide_eq_true (by omega)
        have k0 : (0 : Int) ≤ (k : Int) := by omega
        have k1 : (k : Int) < (tk.ds.length : Int) := by omega
        have wk : IntKind.i64.wrap ((k : Int) + 1) = (k : Int) + 1 := Go.IntWalk.i64_in _ (by omega)
        obtain ⟨b, off, ead, c0, -, -, -, c4, -⟩ := TabX.desc (S9.out.g 0 rfl) k hkt
        subst ead
        have HNOW := Lib.hid (HM.out.1.now hlt hkt)
        obtain ⟨y, hy⟩ : ∃ y, y = tk.ds[k] := ⟨_, rfl⟩
        rw [← hy] at c0 c4 HNOW
        have HY := Lib.hid hy
        clear hy
        obtain ⟨d0, d1⟩ := cells2 (S9.out.at 0 rfl)
        by_cases h1 : 0 < y.refs
        · have i5 : decide (0 < y.refs) = true := decide_eq_true h1
          by_cases h2 : y.ino = ino
          · have j1 : (y.ino == ino) = true := by simpa using h2
            have j2 : decide (y.ino = ino) = true := decide_eq_true h2
            have j3 : (y.ino != ino) = false := by simpa using h2
            have HQ := Lib.hid (show nodeQ ino k t.ds[k] = true from node_iff.2 ⟨by rw [← HNOW.out]; exact h1, by rw [← HNOW.out]; exact h2⟩)
            have HRY := Lib.hid (show 0 < (tk.ds[k]).refs ∧ (tk.ds[k]).ino = ino by rw [← HY.out]; exact ⟨h1, h2⟩)
            clear h1 h2
            go_upto_region 9 with (fail)
            clear c0 c4
            clear d0 d1
            have h_d := (S9.out.at 0 rfl)
            go_wp2_with (first | (refine wpList_load_row rfl 25 _ rfl _ rfl 25 _ (0, 0) _ h_d Try.underlying25 rfl (by kernel_rfl) ?_) | (refine wpList_load_rowG rfl 25 _ rfl _ rfl 25 _ (0, 0) _ h_d Try.underlying25 rfl (by kernel_rfl) ?_))
            refine (pc.lock _ tk (k : Int) 0 _ _ _ _ wr S9.out.oldX (S9.out.g 0 rfl) HZK.out HM.out.2.1).mono ?_
            rintro e W9 ⟨vd9, vf9, rfl, hT9, hb⟩
            obtain ⟨ad9, cap9, af9, capf9, rfl, rfl⟩ := hT9.form
            clear h_d
            obtain ⟨tb, htb⟩ : ∃ tb, tb = (lockT tk (k : Int) 0).1 := ⟨_, rfl⟩
            rw [← htb] at hT9 ⊢
            obtain ⟨tb1, htb1⟩ : ∃ tb1, tb1 = (lockT tk (k : Int) 0).2 := ⟨_, rfl⟩
            rw [← htb1]
            have Htb1 := Lib.hid htb1
            clear htb1
            have Htb := Lib.hid htb
            have S9 := Lib.hid ((S9.out.call hb).more (TabX.firm _ _ _) hT9)
            clear htb hb hT9
            go_upto_region 10 with (fail)
            refine code_fresh1 ?_
            intro W10 hb hA0 hs
            have S10 := Lib.hid (S9.out.new1 hb hA0)
            clear hb hA0 hs
            have hn := lock_none hkt (show 1 ≤ (tk.ds[k]).refs by have := HRY.out.1; omega)
            have HTB : Hid (tb = ⟨tk.ds.set k (withL tk.ds[k] 0), tk.fs⟩) := Lib.hid (by rw [Htb.out, hn])
            have HB1 : Hid (tb1 = 0) := Lib.hid (by rw [Htb1.out, hn])
            have HM2 : Hid (MapT (nodeQ ino) 0 t (k + 1) tb ∧ RightT tb ∧ SizeM 100 tb) := Lib.hid ⟨by rw [HTB.out]; exact HM.out.1.step hlt hkt HQ.out, by rw [Htb.out]; exact right_lock HM.out.2.1 _ _, by rw [Htb.out]; exact size_lock HM.out.2.2 _ _⟩
            have hlb : tb.ds.length = tk.ds.length := by rw [HTB.out]; exact List.length_set ..
            have z1 : ((tb.ds.length : Int) != (tk.ds.length : Int)) = false := by simp; omega
            have z2 : ((tb.ds.length : Int) == (tk.ds.length : Int)) = true := by simp; omega
            have z3 : decide ((tb.ds.length : Int) = (tk.ds.length : Int)) = true := decide_eq_true (by omega)
            have z4 : decide (tb.ds.length = tk.ds.length) = true := decide_eq_true (by omega)
            have z5 : (tb.ds.length == tk.ds.length) = true := by simp; omega
            clear hn hlb
            have e1 : (tb1 == 0) = true := by simpa using HB1.out
            have e2 : decide (tb1 = 0) = true := decide_eq_true HB1.out
            have e3 : (tb1 != 0) = false := by simpa using HB1.out
            obtain ⟨a0, a1⟩ := cells2 (S10.out.at 1 rfl)
            obtain ⟨d0, d1⟩ := cells2 (S10.out.at 0 rfl)
            go_upto_region 12 with (fail)
            clear z1 z2 z3 z4 z5 e1 e2 e3
            clear a0 a1 d0 d1
            have h_a := (S10.out.at 1 rfl)
            have h_d := (S10.out.at 0 rfl)
            go_wp2_with (first | (refine wpList_load_row rfl 25 _ rfl _ rfl 25 _ (0, 0) _ h_a Try.underlying25 rfl (by kernel_rfl) ?_) | (refine wpList_store_row rfl 25 _ _ rfl _ rfl rfl h_d rfl (by kernel_rfl) rfl ?_; intro W11 hb hg hs hn; have S11 := Lib.hid (S10.out.set 0 rfl hb hg hs hn); clear hb hg hs hn))
            go_roundw
            case rel => exact ⟨k + 1, tb, ad9, af9, cap9, capf9, by go_num, hlt, HM2, Lib.hid ((S11.out.leave (B' := [(w.heap.size, #[.slice ad9 tb.ds.length cap9, .slice af9 tb.fs.length capf9], 25)]) (by simp)).less (by simp))⟩
            case measure => simp [RowKit.intOf]; omega
          · have j1 : (y.ino == ino) = false := by simpa using h2
            have j2 : decide (y.ino = ino) = false := decide_eq_false h2
            have j3 : (y.ino != ino) = true := by simpa using h2
            have HQ := Lib.hid (show nodeQ ino k t.ds[k] = false from node_no2 (by rw [← HNOW.out]; exact h2))
            have HM2 : Hid (MapT (nodeQ ino) 0 t (k + 1) tk ∧ RightT tk ∧ SizeM 100 tk) := Lib.hid ⟨HM.out.1.skip hlt HQ.out, HM.out.2⟩
            clear h1 h2
            go_wp2_with fail
            go_roundw
            case rel => exact ⟨k + 1, tk, (some ⟨b, off, none⟩), afk, capk, capfk, by go_num, hlt, HM2, S9⟩
            case measure => simp [RowKit.intOf]; omega
        · have i5 : decide (0 < y.refs) = false := decide_eq_false h1
          have HQ := Lib.hid (show nodeQ ino k t.ds[k] = false from node_no1 (by rw [← HNOW.out]; exact h1))
          have HM2 : Hid (MapT (nodeQ ino) 0 t (k + 1) tk ∧ RightT tk ∧ SizeM 100 tk) := Lib.hid ⟨HM.out.1.skip hlt HQ.out, HM.out.2⟩
          clear h1
          go_wp2_with fail
          go_roundw
          case rel => exact ⟨k + 1, tk, (some ⟨b, off, none⟩), afk, capk, capfk, by go_num, hlt, HM2, S9⟩
          case measure => simp [RowKit.intOf]; omega
      · have hke : k = t.ds.length := by omega
        subst hke
        have hlk := HLK.out
        have iL7 : decide (t.ds.length < tk.ds.length) = false := decide_eq_false (by omega)
        have iM7 : decide ((t.ds.length : Int) < (tk.ds.length : Int)) = false := decide_eq_false (by omega)
        clear hlk hlt hk
        have H1 := Lib.hid HM.out.1
        have HRK := Lib.hid HM.out.2
        obtain ⟨d0, d1⟩ := cells2 (S9.out.at 0 rfl)
        go_wp2_with fail
        clear d0 d1
        go_loopw [5, 6, 10] (fun jn jl j wr => ∃ (k : Nat) (la : Int) (tm : TabL) (adm afm : Option Addr) (capm capfm : Nat), jn = .int .i64 (nodeN (tk.ds.take k) ino) ∧ jl = .int .i64 la ∧ j = .int .i64 k ∧ k ≤ tk.ds.length ∧ Hid (LastT tk ino k la) ∧ Hid (MapT (nodeQ ino) 1 tk k tm ∧ RightT tm ∧ SizeM 100 tm) ∧ Hid (Sf (fun _ => False) w [(w.heap.size, #[.slice adm tm.ds.length capm, .slice afm tm.fs.length capfm], 25)] [TabX tm (.slice adm tm.ds.length capm) (.slice afm tm.fs.length capfm)] wr)) (fun _ _ j _ => tk.ds.length - (RowKit.intOf j).toNat)
        case atStart => exact ⟨0, -1, tk, adk, afk, capk, capfk, rfl, rfl, rfl, Nat.zero_le _, Lib.hid (.inl rfl), Lib.hid ⟨map_zero _ _ _, HRK.out⟩, S9⟩
        case round =>
          clear S9 HM HLK HZK iL7 iM7 hl1
          obtain ⟨k, la, tm, adm, afm, capm, capfm, rfl, rfl, rfl, hk, HLA, HM, S9⟩ := hrel
          have hl1 : tk.ds.length ≤ 1000 := (size_T HRK.out.2 (by decide)).1
          have HLK := Lib.hid (HM.out.1.len)
          have HZK := Lib.hid (size_T HM.out.2.2 (by decide))
          by_cases hlt : k < tk.ds.length
          · have hkt : k < tm.ds.length := by rw [HLK.out]; exact hlt
            have iL7 : decide (k < tm.ds.length) = true := decide_eq_true (by omega)
            have iM7 : decide ((k : Int) < (tm.ds.length : Int)) = true := decide_eq_true (by omega)
            have k0 : (0 : Int) ≤ (k : Int) := by omega
            have k1 : (k : Int) < (tm.ds.length : Int) := by omega
            have wk : IntKind.i64.wrap ((k : Int) + 1) = (k : Int) + 1 := Go.IntWalk.i64_in _ (by omega)
            obtain ⟨b, off, ead, c0, -, -, -, c4, -⟩ := TabX.desc (S9.out.g 0 rfl) k hkt
            subst ead
            have HNOW := Lib.hid (HM.out.1.now hlt hkt)
            obtain ⟨y, hy⟩ : ∃ y, y = tm.ds[k] := ⟨_, rfl⟩
            rw [← hy] at c0 c4 HNOW
            have HY := Lib.hid hy
            clear hy
            obtain ⟨d0, d1⟩ := cells2 (S9.out.at 0 rfl)
            by_cases h1 : 0 < y.refs
            · have i5 : decide (0 < y.refs) = true := decide_eq_true h1
              by_cases h2 : y.ino = ino
              · have j1 : (y.ino == ino) = true := by simpa using h2
                have j2 : decide (y.ino = ino) = true := decide_eq_true h2
                have j3 : (y.ino != ino) = false := by simpa using h2
                have HQ := Lib.hid (show nodeQ ino k tk.ds[k] = true from node_iff.2 ⟨by rw [← HNOW.out]; exact h1, by rw [← HNOW.out]; exact h2⟩)
                have HRY := Lib.hid (show 0 < (tm.ds[k]).refs ∧ (tm.ds[k]).ino = ino by rw [← HY.out]; exact ⟨h1, h2⟩)
                clear h1 h2
                go_upto_region 17 with (fail)
                clear c0 c4
                clear d0 d1
                have h_d := (S9.out.at 0 rfl)
                go_wp2_with (first | (refine wpList_load_row rfl 25 _ rfl _ rfl 25 _ (0, 0) _ h_d Try.underlying25 rfl (by kernel_rfl) ?_) | (refine wpList_load_rowG rfl 25 _ rfl _ rfl 25 _ (0, 0) _ h_d Try.underlying25 rfl (by kernel_rfl) ?_))
                refine (pc.lock _ tm (k : Int) 1 _ _ _ _ wr S9.out.oldX (S9.out.g 0 rfl) HZK.out HM.out.2.1).mono ?_
                rintro e W69 ⟨vd69, vf69, rfl, hT69, hb⟩
                obtain ⟨ad69, cap69, af69, capf69, rfl, rfl⟩ := hT69.form
                clear h_d
                obtain ⟨tb, htb⟩ : ∃ tb, tb = (lockT tm (k : Int) 1).1 := ⟨_, rfl⟩
                rw [← htb] at hT69 ⊢
                obtain ⟨tb1, htb1⟩ : ∃ tb1, tb1 = (lockT tm (k : Int) 1).2 := ⟨_, rfl⟩
                rw [← htb1]
                have Htb1 := Lib.hid htb1
                clear htb1
                have Htb := Lib.hid htb
                have S69 := Lib.hid ((S9.out.call hb).more (TabX.firm _ _ _) hT69)
                clear htb hb hT69
                go_upto_region 18 with (fail)
                refine code_fresh1 ?_
                intro W70 hb hA0 hs
                have S70 := Lib.hid (S69.out.new1 hb hA0)
                clear hb hA0 hs
                have hn := share_goes H1.out HM.out.1 hkt HRY.out.1 HRY.out.2
                have HTB : Hid (tb = ⟨tm.ds.set k (withL tm.ds[k] 1), tm.fs⟩) := Lib.hid (by rw [Htb.out, hn])
                have HB1 : Hid (tb1 = 0) := Lib.hid (by rw [Htb1.out, hn])
                have HM2 : Hid (MapT (nodeQ ino) 1 tk (k + 1) tb ∧ RightT tb ∧ SizeM 100 tb) := Lib.hid ⟨by rw [HTB.out]; exact HM.out.1.step hlt hkt HQ.out, by rw [Htb.out]; exact right_lock HM.out.2.1 _ _, by rw [Htb.out]; exact size_lock HM.out.2.2 _ _⟩
                have hlb : tb.ds.length = tm.ds.length := by rw [HTB.out]; exact List.length_set ..
                have z1 : ((tb.ds.length : Int) != (tm.ds.length : Int)) = false := by simp; omega
                have z2 : ((tb.ds.length : Int) == (tm.ds.length : Int)) = true := by simp; omega
                have z3 : decide ((tb.ds.length : Int) = (tm.ds.length : Int)) = true := decide_eq_true (by omega)
                have z4 : decide (tb.ds.length = tm.ds.length) = true := decide_eq_true (by omega)
                have z5 : (tb.ds.length == tm.ds.length) = true := by simp; omega
                clear hn hlb
                have e1 : (tb1 == 0) = true := by simpa using HB1.out
                have e2 : decide (tb1 = 0) = true := decide_eq_true HB1.out
                have e3 : (tb1 != 0) = false := by simpa using HB1.out
                obtain ⟨a0, a1⟩ := cells2 (S70.out.at 1 rfl)
                obtain ⟨d0, d1⟩ := cells2 (S70.out.at 0 rfl)
                go_upto_region 20 with (fail)
                clear z1 z2 z3 z4 z5 e1 e2 e3
                clear a0 a1 d0 d1
                have HLA2 := Lib.hid (last_now hlt HQ.out)
                have HNN : Hid (nodeN (tk.ds.take (k + 1)) ino = nodeN (tk.ds.take k) ino + 1) := Lib.hid (by rw [nodeN_next _ _ hlt, HQ.out]; rfl)
                have hnl := nodeN_le (tk.ds.take k) ino
                rw [List.length_take] at hnl
                obtain ⟨n, hn⟩ : ∃ n, n = nodeN (tk.ds.take k) ino := ⟨_, rfl⟩
                rw [← hn] at HNN hnl ⊢
                clear hn
                have wn : IntKind.i64.wrap ((n : Int) + 1) = (n : Int) + 1 := Go.IntWalk.i64_in _ (by omega)
                have h_a := (S70.out.at 1 rfl)
                have h_d := (S70.out.at 0 rfl)
                go_wp2_with (first | (refine wpList_load_row rfl 25 _ rfl _ rfl 25 _ (0, 0) _ h_a Try.underlying25 rfl (by kernel_rfl) ?_) | (refine wpList_store_row rfl 25 _ _ rfl _ rfl rfl h_d rfl (by kernel_rfl) rfl ?_; intro W71 hb hg hs hn; have S71 := Lib.hid (S70.out.set 0 rfl hb hg hs hn); clear hb hg hs hn))
                go_roundw
                case rel => exact ⟨k + 1, (k : Int), tb, ad69, af69, cap69, capf69, (by rw [HNN.out]; go_num), rfl, by go_num, hlt, HLA2, HM2, Lib.hid ((S71.out.leave (B' := [(w.heap.size, #[.slice ad69 tb.ds.length cap69, .slice af69 tb.fs.length capf69], 25)]) (by simp)).less (by simp))⟩
                case measure => simp [RowKit.intOf]; omega
              · have j1 : (y.ino == ino) = false := by simpa using h2
                have j2 : decide (y.ino = ino) = false := decide_eq_false h2
                have j3 : (y.ino != ino) = true := by simpa using h2
                have HQ := Lib.hid (show nodeQ ino k tk.ds[k] = false from node_no2 (by rw [← HNOW.out]; exact h2))
                have HM2 : Hid (MapT (nodeQ ino) 1 tk (k + 1) tm ∧ RightT tm ∧ SizeM 100 tm) := Lib.hid ⟨HM.out.1.skip hlt HQ.out, HM.out.2⟩
                have HLA2 := Lib.hid (last_skip HLA.out hlt HQ.out)
                have HNN : Hid (nodeN (tk.ds.take (k + 1)) ino = nodeN (tk.ds.take k) ino) := Lib.hid (by rw [nodeN_next _ _ hlt, HQ.out]; rfl)
                clear h1 h2
                go_wp2_with fail
                go_roundw
                case rel => exact ⟨k + 1, la, tm, (some ⟨b, off, none⟩), afm, capm, capfm, (by rw [HNN.out]), rfl, by go_num, hlt, HLA2, HM2, S9⟩
                case measure => simp [RowKit.intOf]; omega
            · have i5 : decide (0 < y.refs) = false := decide_eq_false h1
              have HQ := Lib.hid (show nodeQ ino k tk.ds[k] = false from node_no1 (by rw [← HNOW.out]; exact h1))
              have HM2 : Hid (MapT (nodeQ ino) 1 tk (k + 1) tm ∧ RightT tm ∧ SizeM 100 tm) := Lib.hid ⟨HM.out.1.skip hlt HQ.out, HM.out.2⟩
              have HLA2 := Lib.hid (last_skip HLA.out hlt HQ.out)
              have HNN : Hid (nodeN (tk.ds.take (k + 1)) ino = nodeN (tk.ds.take k) ino) := Lib.hid (by rw [nodeN_next _ _ hlt, HQ.out]; rfl)
              clear h1
              go_wp2_with fail
              go_roundw
              case rel => exact ⟨k + 1, la, tm, (some ⟨b, off, none⟩), afm, capm, capfm, (by rw [HNN.out]), rfl, by go_num, hlt, HLA2, HM2, S9⟩
              case measure => simp [RowKit.intOf]; omega
          · have hke : k = tk.ds.length := by omega
            subst hke
            have hlk := HLK.out
            have iL7 : decide (tk.ds.length < tm.ds.length) = false := decide_eq_false (by omega)
            have iM7 : decide ((tk.ds.length : Int) < (tm.ds.length : Int)) = false := decide_eq_false (by omega)
            clear hlk hlt hk
            rw [List.take_length]
            have HLAT : Hid (nodeN tk.ds ino = 0 ∨ ∃ m : Nat, ∃ h : m < tk.ds.length, la = (m : Int) ∧ nodeQ ino m tk.ds[m] = true) := Lib.hid (by have := HLA.out; unfold LastT at this; rw [List.take_length] at this; exact this)
            clear HLA
            have HH := Lib.hid (share_held HM.out.1)
            obtain ⟨n, hn⟩ : ∃ n, n = nodeN tk.ds ino := ⟨_, rfl⟩
            rw [← hn] at HH HLAT ⊢
            have HN := Lib.hid hn
            clear hn
            obtain ⟨d0, d1⟩ := cells2 (S9.out.at 0 rfl)
            go_upto_region 23 with (fail)
            clear d0 d1
            have h_d := (S9.out.at 0 rfl)
            go_wp2_with (first | (refine wpList_load_row rfl 25 _ rfl _ rfl 25 _ (0, 0) _ h_d Try.underlying25 rfl (by kernel_rfl) ?_) | (refine wpList_load_rowG rfl 25 _ rfl _ rfl 25 _ (0, 0) _ h_d Try.underlying25 rfl (by kernel_rfl) ?_))
            refine (pc.holders _ tm ino _ _ _ _ wr S9.out.oldX (S9.out.g 0 rfl) HZK.out HM.out.2.1).mono ?_
            rintro e W124 ⟨rfl, hb⟩
            clear h_d
            have S124 := Lib.hid (S9.out.call hb)
            rw [HH.out.1, HH.out.2]
            clear hb
            by_cases h0 : n = 0
            · subst h0
              go_wp2_with fail
              go_ret
              exact ⟨rfl, S124.out.bel⟩
            · have y1 : decide ((n : Int) = 0) = false := decide_eq_false (by omega)
              have y2 : decide (n = 0) = false := decide_eq_false (by omega)
              have y3 : ((n : Int) == 0) = false := by rw [beq_eq_false_iff_ne]; omega
              have y4 : (n == 0) = false := by rw [beq_eq_false_iff_ne]; omega
              have y5 : ((n : Int) != (n : Int)) = false := by simp
              obtain ⟨m, hm, hla, hq⟩ := HLAT.out.resolve_left h0
              subst hla
              have HSL := Lib.hid (share_last HM.out.1 hm hq)
              rw [← HN.out] at HSL
              clear hq h0
              go_upto_region 28 with (fail)
              have h_d := (S124.out.at 0 rfl)
              go_wp2_with (first | (refine wpList_load_row rfl 25 _ rfl _ rfl 25 _ (0, 0) _ h_d Try.underlying25 rfl (by kernel_rfl) ?_) | (refine wpList_load_rowG rfl 25 _ rfl _ rfl 25 _ (0, 0) _ h_d Try.underlying25 rfl (by kernel_rfl) ?_))
              refine (pc.lock _ tm (m : Int) 2 _ _ _ _ W124 S124.out.oldX (S124.out.g 0 rfl) HZK.out HM.out.2.1).mono ?_
              rintro e W125 ⟨vd125, vf125, rfl, hT125, hb⟩
              obtain ⟨ad125, cap125, af125, capf125, rfl, rfl⟩ := hT125.form
              clear h_d
              obtain ⟨tz, htz⟩ : ∃ tz, tz = (lockT tm (m : Int) 2).1 := ⟨_, rfl⟩
              rw [← htz] at hT125 ⊢
              obtain ⟨tz1, htz1⟩ : ∃ tz1, tz1 = (lockT tm (m : Int) 2).2 := ⟨_, rfl⟩
              rw [← htz1]
              have Htz1 := Lib.hid htz1
              clear htz1
              have Htz := Lib.hid htz
              have S125 := Lib.hid ((S124.out.call hb).more (TabX.firm _ _ _) hT125)
              clear htz hb hT125
              rw [← Htz1.out] at HSL
              clear y1 y2 y3 y4 y5
              go_upto_region 29 with (fail)
              refine code_fresh1 ?_
              intro W126 hb hA0 hs
              have S126 := Lib.hid (S125.out.new1 hb hA0)
              clear hb hA0 hs
              by_cases hn1 : n = 1
              · have he := HSL.out.2.2 hn1
                have e1 : (tz1 == 0) = true := by simpa using he
                have e2 : decide (tz1 = 0) = true := decide_eq_true he
                have e3 : (tz1 != 0) = false := by simpa using he
                have x1 : decide ((n : Int) = 1) = true := decide_eq_true (by omega)
                have x2 : decide (n = 1) = true := decide_eq_true (by omega)
                have x3 : ((n : Int) == 1) = true := by rw [hn1]; rfl
                have x4 : (n == 1) = true := by rw [hn1]; rfl
                clear he hn1
                go_wp2_with fail
                go_ret
                exact ⟨rfl, S126.out.bel⟩
              · have he : ¬ tz1 = 0 := fun h => hn1 (HSL.out.2.1 h)
                have he2 : tz1 = 14 := HSL.out.1.resolve_left he
                have e1 : (tz1 == 0) = false := by simpa using he
                have e2 : decide (tz1 = 0) = false := decide_eq_false he
                have e3 : (tz1 != 0) = true := by simpa using he
                have f1 : (tz1 == 14) = true := by simpa using he2
                have f2 : decide (tz1 = 14) = true := decide_eq_true he2
                have f3 : (tz1 != 14) = false := by simpa using he2
                have x1 : decide ((n : Int) = 1) = false := decide_eq_false (by omega)
                have x2 : decide (n = 1) = false := decide_eq_false (by omega)
                have x3 : ((n : Int) == 1) = false := by rw [beq_eq_false_iff_ne]; omega
                have x4 : (n == 1) = false := by rw [beq_eq_false_iff_ne]; exact hn1
                clear he he2 hn1
                go_wp2_with fail
                go_ret
                exact ⟨rfl, S126.out.bel⟩
end Go.Proofs.Ytfcjmcenaankfaa
