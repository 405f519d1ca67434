import Derived.Test.YtinoogmaikhpjaaGreatDoorR38
import Derived.Deep.RegionHeld3
import Derived.Deep.DeepCutAuto
namespace Go.Proofs.YtinoogmaikhpjaaGreatDoor
open Go.RowKit Go.Shelf
attribute [local go_sem ↓] Go.wp_at_zero Go.wp_at_succ
set_option maxRecDepth 100000 in
set_option maxHeartbeats 4000000 in
theorem popensR_c {X : Nat → Prop} (k : KernL) (ao ad af ap : Option Addr) (co cd cf cp : Nat) (w : World) (hD : DiskX k.l (.slice ao k.l.length co) X w) (hT : TabX k.t (.slice ad k.t.ds.length cd) (.slice af k.t.fs.length cf) X w) (hP : PsX k.ps (.slice ap k.ps.length cp) X w) (hz : SizeT k.t) (hr : RightT k.t) (hl : k.l.length ≤ 10000) (hn : ∀ n ∈ k.l, n.names.length ≤ 10000) (hp : k.ps.length ≤ 1000) (hpr : ∀ x ∈ k.ps, x.live = true → (nodeL k.l x.cwd).kind = 2) (hfr : ∀ i : Nat, (nd k.l i).kind = 0 → (nd k.l i).opn = 0) :
    Calls Tryz.prog 14 #[.agg #[.slice ao k.l.length co, .int .i64 k.most, .int .i64 k.room, .slice ad k.t.ds.length cd, .slice af k.t.fs.length cf, .slice ap k.ps.length cp]] w fun e w' => e = .returned (.bool (openedB k)) ∧ Below w.heap.size w w' := by
  have S0 := Lib.hid (Sf.start (w := w) (X := fun _ => False) (G := [DiskX k.l (.slice ao k.l.length co), TabX k.t (.slice ad k.t.ds.length cd) (.slice af k.t.fs.length cf), PsX k.ps (.slice ap k.ps.length cp)]) (fun _ h => h.elim) (th3 (DiskX.firm _ _) ((DiskX.firm _ _).sub hD fun _ h => h.elim) (TabX.firm _ _ _) ((TabX.firm _ _ _).sub hT fun _ h => h.elim) (PsX.firm _ _) ((PsX.firm _ _).sub hP fun _ h => h.elim)))
  have HG0 := Lib.hid (show ∀ P ∈ ([DiskX k.l (.slice ao k.l.length co), TabX k.t (.slice ad k.t.ds.length cd) (.slice af k.t.fs.length cf), PsX k.ps (.slice ap k.ps.length cp)] : List Thing), P (fun _ => False) w from fun P hp => by simp only [List.mem_cons, List.not_mem_nil, or_false] at hp; rcases hp with rfl | rfl | rfl; exact (DiskX.firm _ _).sub hD fun _ h => h.elim; exact (TabX.firm _ _ _).sub hT fun _ h => h.elim; exact (PsX.firm _ _).sub hP fun _ h => h.elim)
  have HZ := Lib.hid hz
  have HR := Lib.hid hr
  have HL := Lib.hid hl
  have HN := Lib.hid hn
  have HPL := Lib.hid hp
  have HPR := Lib.hid hpr
  have HFR := Lib.hid hfr
  obtain ⟨iI, hI, hIz, hIs, hIb⟩ := info_parts infoInt
  clear hD hT hP hz hr hn hp hpr hfr
  go_enter Tryz.func14, Tryz.ntmps14
  go_upto_region 1 with (fail)
  refine code_fresh1 ?_
  intro W1 hb hA0 hs
  have S1 := Lib.hid (S0.out.new1 hb hA0)
  clear hb hA0 hs
  obtain ⟨k0, -, -, -, -, -⟩ := cells6 (S1.out.at 0 rfl)
  go_upto_region 2 with (first | (at_make; refine wpList_make_full _ rfl (.tmp 15) (.tmp 15) 48 rfl W1.heap.size 3 iI _ 1 Tryz.underlying48 hI hIz hIs .i64 .i64 _ _ k.l.length rfl rfl (by rfl) (by rfl) (by rw [hIb]; omega) (by unfold maxLen; omega) (Nat.le_refl _) ?_; intro W2 ho2 hg2; have S2 := Lib.hid (S1.out.grown HG0.out hg2 (fun g e => by cases e)); have HV := Lib.hid (own_mono (own_ints ho2) S1.out.bel.size); clear ho2 hg2))
  clear k0 hl
  obtain ⟨g, hg⟩ : ∃ g, g = W1.heap.size := ⟨_, rfl⟩
  rw [List.length_replicate, ← opnA_zero] at HV
  rw [← hg] at HV ⊢
  clear hg
  replace HV := Lib.hid (show W2.ownsRow w.heap.size 3 1 (.slice (some ⟨g, 0, none⟩) k.l.length k.l.length) k.l.length (intC (opnA k 0 0)) from HV.out)
  obtain ⟨-, -, -, k3, -, -⟩ := cells6 (S2.out.at 0 rfl)
  go_wp2_with fail
  have hl1 : k.t.ds.length ≤ 1000 := HZ.out.1
  clear k3
  clear hIb hIs hIz hI iI
  go_loopw [21] (fun i wr => ∃ j : Nat, i = .int .i64 j ∧ j ≤ k.t.ds.length ∧ Hid (Sf (fun _ => False) w [(w.heap.size, #[.slice ao k.l.length co, .int .i64 k.most, .int .i64 k.room, .slice ad k.t.ds.length cd, .slice af k.t.fs.length cf, .slice ap k.ps.length cp], 31)] [DiskX k.l (.slice ao k.l.length co), TabX k.t (.slice ad k.t.ds.length cd) (.slice af k.t.fs.length cf), PsX k.ps (.slice ap k.ps.length cp)] wr) ∧ Hid (wr.ownsRow w.heap.size 3 1 (.slice (some ⟨g, 0, none⟩) k.l.length k.l.length) k.l.length (intC (opnA k j 0))) ∧ Hid (∀ d ∈ k.t.ds.take j, descGot k d = true)) (fun i _ => k.t.ds.length - (RowKit.intOf i).toNat)
  case atStart => exact ⟨0, rfl, Nat.zero_le _, S2, HV, Lib.hid (fun d hd => by cases hd)⟩
  case round =>
    clear S2 HV S1
    obtain ⟨j, rfl, hj, S3, HV, HDG⟩ := hrel
    by_cases hlt : j < k.t.ds.length
    · have iL2 : decide (j < k.t.ds.length) = true := decide_eq_true (by omega)
      have iM2 : decide ((j : Int) < (k.t.ds.length : Int)) = true := decide_eq_true (by omega)
      have j0 : (0 : Int) ≤ (j : Int) := by omega
      have j1 : (j : Int) < (k.t.ds.length : Int) := by omega
      have wj : IntKind.i64.wrap ((j : Int) + 1) = (j : Int) + 1 := Go.IntWalk.i64_in _ (by omega)
      obtain ⟨b5, off5, e5, cD⟩ := TabX.range (S3.out.g 1 rfl) j hlt
      subst e5
      obtain ⟨y, hy⟩ : ∃ y, y = k.t.ds[j] := ⟨_, rfl⟩
      rw [← hy] at cD
      have HY := Lib.hid hy
      have hrp : 0 ≤ y.refs := by rw [hy]; exact refs_pos HR.out hlt
      clear hy
      go_upto_region 5 with (first | (refine wpList_load_mid rfl 76 _ rfl _ (off5 + j * 6) rfl _ _ cD Tryz.underlying76 rfl (by kernel_rfl) ?_) | (refine wpList_fresh1 ?_; intro W4 hb hn hs; have S4 := Lib.hid (S3.out.new1 hb hn); have HB4 := Lib.hid hb; have h_x := S4.out.at 1 rfl; clear hb hn hs) | (refine wpList_store_row rfl 76 _ _ rfl _ rfl rfl h_x rfl (by kernel_rfl) rfl ?_; intro W5 hb hg hs hn; have S5 := Lib.hid (S4.out.set 1 rfl hb hg hs hn); have HV5 := Lib.hid (ownsRow_below HV.out (HB4.out.trans hb) (Nat.le_refl _)); clear hb hg hs hn))
      clear cD
      clear h_x HB4 HV
      have HV := HV5
      clear HV5
      obtain ⟨x0, -, -, -, x4, -⟩ := cells6 (S5.out.at 1 rfl)
      by_cases hrf : y.refs = 0
      · have i41 : (y.refs == 0) = true := by simpa using hrf
        have i42 : decide (y.refs = 0) = true := decide_eq_true hrf
        have i43 : (y.refs != 0) = false := by simpa using hrf
        have HVn : Hid (W5.ownsRow w.heap.size 3 1 (.slice (some ⟨g, 0, none⟩) k.l.length k.l.length) k.l.length (intC (opnA k (j + 1) 0))) := Lib.hid (by rw [opnA_skip hlt (by rw [← HY.out]; omega)]; exact HV.out)
        have HDn : Hid (∀ d ∈ k.t.ds.take (j + 1), descGot k d = true) := Lib.hid (fun d hd => by rw [List.take_succ_eq_append_getElem hlt] at hd; rcases List.mem_append.1 hd with hd | hd; exact HDG.out d hd; rw [List.mem_singleton] at hd; subst hd; unfold descGot; rw [decide_eq_false (show ¬ 0 < (k.t.ds[j]).refs by rw [← HY.out]; omega)]; rfl)
        clear hrf hrp
        go_wp2_with fail
        go_roundw
        case rel => exact ⟨j + 1, by go_num, hlt, Lib.hid (S5.out.leave (by simp)), HVn, HDn⟩
        case measure => simp [RowKit.intOf]; omega
      · have i41 : (y.refs == 0) = false := by simpa using hrf
        have i42 : decide (y.refs = 0) = false := decide_eq_false hrf
        have i43 : (y.refs != 0) = true := by simpa using hrf
        have HRF := Lib.hid (show 0 < y.refs by omega)
        clear hrf hrp
        have h_kd := k_disk (S5.out.at 0 rfl)
        go_wp2_with (first | (refine wpList_load_mid rfl 24 _ rfl _ 0 rfl _ _ h_kd Tryz.underlying24 rfl (by kernel_rfl) ?_) | (refine wpList_load_midG rfl 24 _ rfl _ 0 rfl _ _ h_kd Tryz.underlying24 rfl (by kernel_rfl) ?_))
        refine (get_g _ k.l k.most k.room y.ino _ W5 S5.out.oldX (S5.out.g 0 rfl) HL.out HN.out).mono ?_
        rintro e W6 ⟨aon, cpn, rfl, hn, hb⟩
        clear x0 x4 h_kd
        have S6 := Lib.hid (S5.out.call hb)
        replace HV := Lib.hid (ownsRow_below HV.out hb (Nat.le_refl _))
        clear hn hb
        obtain ⟨n, hnn⟩ : ∃ n, n = nodeL k.l y.ino := ⟨_, rfl⟩
        obtain ⟨gb, hg⟩ : ∃ gb, gb = gotB k.l y.ino := ⟨_, rfl⟩
        rw [← hnn, ← hg]
        have HG := Lib.hid hg
        clear hnn hg
        go_upto_region 7 with (first | (refine wpList_fresh1 ?_; intro W7 hb hn hs; have S7 := Lib.hid (S6.out.new1 hb hn); have HB7 := Lib.hid hb; have h_n := S7.out.at 2 rfl; clear hb hn hs) | (refine wpList_store_row rfl 47 _ _ rfl _ rfl rfl h_n rfl (by kernel_rfl) rfl ?_; intro W8 hb hg hs hn; have S8 := Lib.hid (S7.out.set 2 rfl hb hg hs hn); have HV8 := Lib.hid (ownsRow_below HV.out (HB7.out.trans hb) (Nat.le_refl _)); clear hb hg hs hn))
        clear h_n HB7 HV
        have HV := HV8
        clear HV8
        cases gb with
        | false =>
          have HO := Lib.hid (open_no hlt (by rw [← HY.out]; exact HRF.out) (by rw [← HY.out]; exact HG.out.symm))
          go_wp2_with fail
          go_ret
          exact ⟨by rw [HO.out]; rfl, S8.out.bel⟩
        | true =>
          obtain ⟨q, hq, hql, hqk⟩ := got_nat HG.out.symm
          have HQ := Lib.hid hq
          obtain ⟨x0, -, -, -, -, -⟩ := cells6 (S8.out.at 1 rfl)
          rw [hq] at x0
          clear hq hqk
          go_upto_region 9 with (fail)
          obtain ⟨g2, cpg, eg, hgl, hcg, hfg⟩ := own_at HV.out (by omega)
          injection eg with ega egc egb
          injection ega with ega
          injection ega with ega
          subst ega
          clear egc egb
          have cc := hcg q _ (intC_at _ q (by rw [opnA_len]; exact hql))
          rw [opnA_at] at cc
          have hcs := opnA_small (k := k) j 0 (q : Int) hl1 HPL.out
          obtain ⟨c9, hc⟩ : ∃ c, c = opensD (k.t.ds.take j) (q : Int) + opensP (k.ps.take 0) (q : Int) := ⟨_, rfl⟩
          rw [← hc] at cc hcs
          have HC := Lib.hid hc
          have wc : IntKind.i64.wrap ((c9 : Int) + 1) = (c9 : Int) + 1 := Go.IntWalk.i64_in _ (by omega)
          have q0 : (0 : Int) ≤ (q : Int) := by omega
          have q1 : (q : Int) < (k.l.length : Int) := by omega
          clear hc hcg hcs hgl
          go_upto_region 10 with (fail)
          clear cc hfg
          have hgw : W8.grownBy (W8.setCell ⟨g, q, none⟩ (.int .i64 ((c9 : Int) + 1))) (some g) := grown_setT W8 g q [.int .i64 ((c9 : Int) + 1)]
          have HVn : Hid ((W8.setCell ⟨g, q, none⟩ (.int .i64 ((c9 : Int) + 1))).ownsRow w.heap.size 3 1 (.slice (some ⟨g, 0, none⟩) k.l.length k.l.length) k.l.length (intC (opnA k (j + 1) 0))) := Lib.hid (own_seg HV.out (o := q) (vs := [.int .i64 ((c9 : Int) + 1)]) (by rw [List.length_singleton]; omega) (by rw [opnA_desc hlt (by rw [← HY.out]; exact HRF.out) (by rw [← HY.out]; exact HQ.out)]; unfold intC; rw [List.map_set, List.set_eq_take_append_cons_drop, if_pos (by rw [List.length_map, opnA_len]; exact hql)]; rw [HC.out]; rfl) rfl)
          have S9 := Lib.hid (S8.out.grown HG0.out hgw (fun g e => ⟨(HV.out.lt g e).1, S8.out.apart HV.out rfl g e⟩))
          clear hgw HV
          generalize W8.setCell ⟨g, q, none⟩ (.int .i64 ((c9 : Int) + 1)) = W9 at *
          clear x0
          have HDn : Hid (∀ d ∈ k.t.ds.take (j + 1), descGot k d = true) := Lib.hid (fun d hd => by rw [List.take_succ_eq_append_getElem hlt] at hd; rcases List.mem_append.1 hd with hd | hd; exact HDG.out d hd; rw [List.mem_singleton] at hd; subst hd; unfold descGot; rw [← HY.out, ← HG.out, Bool.or_true])
          clear hql HQ HC HG
          go_wp2_with fail
          go_roundw
          case rel => exact ⟨j + 1, by go_num, hlt, Lib.hid (S9.out.leave (by simp)), HVn, HDn⟩
          case measure => simp [RowKit.intOf]; omega
    · have iL2 : decide (j < k.t.ds.length) = false := decide_eq_false (by omega)
      have iM2 : decide ((j : Int) < (k.t.ds.length : Int)) = false := decide_eq_false (by omega)
      have hts : k.t.ds.take j = k.t.ds := List.take_of_length_le (by omega)
      have HDA : Hid (∀ d ∈ k.t.ds, descGot k d = true) := Lib.hid (by have := HDG.out; rw [hts] at this; exact this)
      obtain rfl : j = k.t.ds.length := by omega
      clear hts HDG hlt
      have hpl := HPL.out
      obtain ⟨-, -, -, -, -, k5⟩ := cells6 (S3.out.at 0 rfl)
      go_wp2_with fail
      clear k5
      go_loopw [49] (fun i wr => ∃ p : Nat, i = .int .i64 p ∧ p ≤ k.ps.length ∧ Hid (Sf (fun _ => False) w [(w.heap.size, #[.slice ao k.l.length co, .int .i64 k.most, .int .i64 k.room, .slice ad k.t.ds.length cd, .slice af k.t.fs.length cf, .slice ap k.ps.length cp], 31)] [DiskX k.l (.slice ao k.l.length co), TabX k.t (.slice ad k.t.ds.length cd) (.slice af k.t.fs.length cf), PsX k.ps (.slice ap k.ps.length cp)] wr) ∧ Hid (wr.ownsRow w.heap.size 3 1 (.slice (some ⟨g, 0, none⟩) k.l.length k.l.length) k.l.length (intC (opnA k k.t.ds.length p)))) (fun i _ => k.ps.length - (RowKit.intOf i).toNat)
      case atStart => exact ⟨0, rfl, Nat.zero_le _, S3, HV⟩
      case round =>
        clear S3 HV
        obtain ⟨p, rfl, hp, S4, HV⟩ := hrel
        by_cases hlt : p < k.ps.length
        · have iL3 : decide (p < k.ps.length) = true := decide_eq_true (by omega)
          have iM3 : decide ((p : Int) < (k.ps.length : Int)) = true := decide_eq_true (by omega)
          have p0 : (0 : Int) ≤ (p : Int) := by omega
          have p1 : (p : Int) < (k.ps.length : Int) := by omega
          have wp : IntKind.i64.wrap ((p : Int) + 1) = (p : Int) + 1 := Go.IntWalk.i64_in _ (by omega)
          obtain ⟨b6, off6, e6, -⟩ := PsX.proc (S4.out.g 2 rfl) p hlt
          subst e6
          obtain ⟨y, hy⟩ : ∃ y, y = k.ps[p] := ⟨_, rfl⟩
          have HY := Lib.hid hy
          have cP : wr.rangeAt b6 (off6 + p * 4) [.int .i64 y.who, .int .i64 y.umask, .int .i64 y.cwd, .bool y.live] := by rw [hy]; exact PsX.rng (S4.out.g 2 rfl) p hlt
          clear hy
          go_upto_region 14 with (first | (refine wpList_load_mid rfl 77 _ rfl _ (off6 + p * 4) rfl _ _ cP Tryz.underlying77 rfl (by kernel_rfl) ?_) | (refine wpList_fresh1 ?_; intro W5 hb hn hs; have S5 := Lib.hid (S4.out.new1 hb hn); have HB5 := Lib.hid hb; have h_x := S5.out.at 1 rfl; clear hb hn hs) | (refine wpList_store_row rfl 77 _ _ rfl _ rfl rfl h_x rfl (by kernel_rfl) rfl ?_; intro W6 hb hg hs hn; have S6 := Lib.hid (S5.out.set 1 rfl hb hg hs hn); have HV6 := Lib.hid (ownsRow_below HV.out (HB5.out.trans hb) (Nat.le_refl _)); clear hb hg hs hn))
          clear cP
          clear h_x HB5 HV
          have HV := HV6
          clear HV6
          obtain ⟨lv, hlv⟩ : ∃ l, l = y.live := ⟨_, rfl⟩
          have HLV := Lib.hid hlv
          obtain ⟨-, -, x2, x3⟩ := cells4 (S6.out.at 1 rfl)
          rw [← hlv] at x3
          clear hlv
          cases lv with
          | false =>
            have HVn : Hid (W6.ownsRow w.heap.size 3 1 (.slice (some ⟨g, 0, none⟩) k.l.length k.l.length) k.l.length (intC (opnA k k.t.ds.length (p + 1)))) := Lib.hid (by rw [opnA_dead hlt (by rw [← HY.out]; exact HLV.out.symm)]; exact HV.out)
            go_wp2_with fail
            go_roundw
            case rel => exact ⟨p + 1, by go_num, hlt, Lib.hid (S6.out.leave (by simp)), HVn⟩
            case measure => simp [RowKit.intOf]; omega
          | true =>
            obtain ⟨q, hq, hql, hqk⟩ := got_nat (kind_got (l := k.l) (i := y.cwd) (by rw [HPR.out y (by rw [HY.out]; exact List.getElem_mem hlt) HLV.out.symm]; decide))
            have HQ := Lib.hid hq
            rw [hq] at x2
            clear hq hqk
            go_upto_region 15 with (fail)
            obtain ⟨g2, cpg, eg, hgl, hcg, hfg⟩ := own_at HV.out (by omega)
            injection eg with ega egc egb
            injection ega with ega
            injection ega with ega
            subst ega
            clear egc egb
            have cc := hcg q _ (intC_at _ q (by rw [opnA_len]; exact hql))
            rw [opnA_at] at cc
            have hcs := opnA_small (k := k) k.t.ds.length p (q : Int) hl1 HPL.out
            obtain ⟨c9, hc⟩ : ∃ c, c = opensD (k.t.ds.take k.t.ds.length) (q : Int) + opensP (k.ps.take p) (q : Int) := ⟨_, rfl⟩
            rw [← hc] at cc hcs
            have HC := Lib.hid hc
            have wc : IntKind.i64.wrap ((c9 : Int) + 1) = (c9 : Int) + 1 := Go.IntWalk.i64_in _ (by omega)
            have q0 : (0 : Int) ≤ (q : Int) := by omega
            have q1 : (q : Int) < (k.l.length : Int) := by omega
            clear hc hcg hcs hgl
            go_upto_region 16 with (fail)
            clear cc hfg
            have hgw : W6.grownBy (W6.setCell ⟨g, q, none⟩ (.int .i64 ((c9 : Int) + 1))) (some g) := grown_setT W6 g q [.int .i64 ((c9 : Int) + 1)]
            have HVn : Hid ((W6.setCell ⟨g, q, none⟩ (.int .i64 ((c9 : Int) + 1))).ownsRow w.heap.size 3 1 (.slice (some ⟨g, 0, none⟩) k.l.length k.l.length) k.l.length (intC (opnA k k.t.ds.length (p + 1)))) := Lib.hid (own_seg HV.out (o := q) (vs := [.int .i64 ((c9 : Int) + 1)]) (by rw [List.length_singleton]; omega) (by rw [opnA_proc hlt (by rw [← HY.out]; exact HLV.out.symm) (by rw [← HY.out]; exact HQ.out)]; unfold intC; rw [List.map_set, List.set_eq_take_append_cons_drop, if_pos (by rw [List.length_map, opnA_len]; exact hql)]; rw [HC.out]; rfl) rfl)
            have S7 := Lib.hid (S6.out.grown HG0.out hgw (fun g e => ⟨(HV.out.lt g e).1, S6.out.apart HV.out rfl g e⟩))
            clear hgw HV
            generalize W6.setCell ⟨g, q, none⟩ (.int .i64 ((c9 : Int) + 1)) = W7 at *
            clear x2 x3
            clear hql HQ HC HLV
            go_wp2_with fail
            go_roundw
            case rel => exact ⟨p + 1, by go_num, hlt, Lib.hid (S7.out.leave (by simp)), HVn⟩
            case measure => simp [RowKit.intOf]; omega
        · have iL3 : decide (p < k.ps.length) = false := decide_eq_false (by omega)
          have iM3 : decide ((p : Int) < (k.ps.length : Int)) = false := decide_eq_false (by omega)
          obtain rfl : p = k.ps.length := by omega
          clear hlt hpl
          have hll := HL.out
          obtain ⟨k0, -, -, -, -, -⟩ := cells6 (S4.out.at 0 rfl)
          go_wp2_with fail
          clear k0
          go_loopw [67] (fun i wr => ∃ mi : Nat, i = .int .i64 mi ∧ mi ≤ k.l.length ∧ Hid (Sf (fun _ => False) w [(w.heap.size, #[.slice ao k.l.length co, .int .i64 k.most, .int .i64 k.room, .slice ad k.t.ds.length cd, .slice af k.t.fs.length cf, .slice ap k.ps.length cp], 31)] [DiskX k.l (.slice ao k.l.length co), TabX k.t (.slice ad k.t.ds.length cd) (.slice af k.t.fs.length cf), PsX k.ps (.slice ap k.ps.length cp)] wr) ∧ Hid (wr.ownsRow w.heap.size 3 1 (.slice (some ⟨g, 0, none⟩) k.l.length k.l.length) k.l.length (intC (opnA k k.t.ds.length k.ps.length))) ∧ Hid (∀ q : Nat, q < mi → (nd k.l q).opn = opensN k q)) (fun i _ => k.l.length - (RowKit.intOf i).toNat)
          case atStart => exact ⟨0, rfl, Nat.zero_le _, S4, HV, Lib.hid (fun q hq => by omega)⟩
          case round =>
            clear S4 HV
            obtain ⟨mi, rfl, hi, S5, HV, HOQ⟩ := hrel
            by_cases hlt : mi < k.l.length
            · have iL4 : decide (mi < k.l.length) = true := decide_eq_true (by omega)
              have iM4 : decide ((mi : Int) < (k.l.length : Int)) = true := decide_eq_true (by omega)
              have p0 : (0 : Int) ≤ (mi : Int) := by omega
              have p1 : (mi : Int) < (k.l.length : Int) := by omega
              have wmi : IntKind.i64.wrap ((mi : Int) + 1) = (mi : Int) + 1 := Go.IntWalk.i64_in _ (by omega)
              obtain ⟨b7, off7, aon, cpn, e7, cN⟩ := DiskX.range (S5.out.g 0 rfl) mi hlt
              subst e7
              obtain ⟨y, hy⟩ : ∃ y, y = k.l[mi] := ⟨_, rfl⟩
              rw [← hy] at cN
              have HY : Hid (nd k.l mi = y) := Lib.hid (by rw [hy]; exact nd_in _ _ hlt)
              clear hy
              go_upto_region 20 with (first | (refine wpList_load_mid rfl 47 _ rfl _ (off7 + mi * 8) rfl _ _ cN Tryz.underlying47 rfl (by kernel_rfl) ?_) | (refine wpList_fresh1 ?_; intro W6 hb hn hs; have S6 := Lib.hid (S5.out.new1 hb hn); have HB6 := Lib.hid hb; have h_x := S6.out.at 1 rfl; clear hb hn hs) | (refine wpList_store_row rfl 47 _ _ rfl _ rfl rfl h_x rfl (by kernel_rfl) rfl ?_; intro W7 hb hg hs hn; have S7 := Lib.hid (S6.out.set 1 rfl hb hg hs hn); have HV7 := Lib.hid (ownsRow_below HV.out (HB6.out.trans hb) (Nat.le_refl _)); clear hb hg hs hn))
              clear cN
              clear h_x HB6 HV
              have HV := HV7
              clear HV7
              obtain ⟨g2, cpg, eg, hgl, hcg, hfg⟩ := own_at HV.out (by omega)
              injection eg with ega egc egb
              injection ega with ega
              injection ega with ega
              subst ega
              clear egc egb
              have cc := hcg mi _ (intC_at _ mi (by rw [opnA_len]; exact hlt))
              rw [opnA_at, List.take_length, List.take_length] at cc
              obtain ⟨c9, hc⟩ : ∃ c, c = opensD k.t.ds (mi : Int) + opensP k.ps (mi : Int) := ⟨_, rfl⟩
              rw [← hc] at cc
              have HC : Hid (opensN k mi = (c9 : Int)) := Lib.hid (by unfold opensN; rw [hc])
              clear hc hcg hfg hgl
              by_cases u : y.opn = (c9 : Int)
              · have u1 : (y.opn == (c9 : Int)) = true := by simpa using u
                have u2 : decide (y.opn = (c9 : Int)) = true := decide_eq_true u
                have u3 : (y.opn != (c9 : Int)) = false := by simpa using u
                have HOn : Hid (∀ q : Nat, q < mi + 1 → (nd k.l q).opn = opensN k q) := Lib.hid (fun q hq => by rcases Nat.lt_or_ge q mi with h | h; exact HOQ.out q h; obtain rfl : q = mi := (by omega); rw [HY.out, HC.out, u])
                clear u
                have HV12 := Lib.hid (show W7.drew.ownsRow w.heap.size 3 1 (.slice (some ⟨g, 0, none⟩) k.l.length k.l.length) k.l.length (intC (opnA k k.t.ds.length k.ps.length)) from ownsRow_below HV.out (Below.refl _ _).drew (Nat.le_refl _))
                have h_x := (S7.out.at 1 rfl)
                refine wp_region_held_drew (S := fun W => W.heap[wr.heap.size]? = some (.cells #[.int .i64 y.kind, .int .i64 y.mode, .int .i64 y.owner, .int .i64 y.links, .int .i64 y.opn, .int .i64 y.up, .string (bs y.data), .slice aon y.names.length cpn] 47 (0, 0)) ∧ W.cell? ⟨g, mi, none⟩ = some (.int .i64 (c9 : Int)) ∧ True) (by kernel_rfl) ⟨(S7.out.at 1 rfl), cc, trivial⟩ (fun hHeld => ?_)
                clear h_x
                have S8 := Lib.hid (S7.out.call (Below.refl W7.heap.size W7).drew)
                generalize W7.drew = W8 at *
                refine wpAnyH_take (i := 0) (v := ?v16) rfl (by kernel_rfl) (by kernel_rfl) (by kernel_rfl) (fun _ _ _ h => h) (Or.inl ⟨by rfl, ?hy16⟩) hHeld ?rest16
                case hy16 => (intro w hSw; (try dsimp only at hSw); (try go_split_ands); go_simp; first | done | with_reducible rfl)
                (try simp only [List.getElem_toArray]); (try simp only [List.getElem_cons_succ]); (try simp only [List.getElem_cons_zero]); (try simp only [Act.put]); (try simp only [List.setIfInBounds_toArray]); (try simp only [List.set_cons_succ]); (try simp only [List.set_cons_zero])
                refine wpAnyH_take (i := 1) (v := ?v17) rfl (by kernel_rfl) (by kernel_rfl) (by kernel_rfl) (fun _ _ _ h => h) (Or.inl ⟨by rfl, ?hy17⟩) hHeld ?rest17
                case hy17 => (intro w hSw; (try dsimp only at hSw); have hcc := (cells8 hSw.1).2.2.2.2.1; (try go_split_ands); go_simp; first | done | with_reducible rfl)
                (try simp only [List.getElem_toArray]); (try simp only [List.getElem_cons_succ]); (try simp only [List.getElem_cons_zero]); (try simp only [Act.put]); (try simp only [List.setIfInBounds_toArray]); (try simp only [List.set_cons_succ]); (try simp only [List.set_cons_zero])
                refine wpAnyH_take (i := 2) (v := ?v18) rfl (by kernel_rfl) (by kernel_rfl) (by kernel_rfl) (fun _ _ _ h => h) (Or.inl ⟨by rfl, ?hy18⟩) hHeld ?rest18
                case hy18 => (intro w hSw; (try dsimp only at hSw); (try go_split_ands); go_simp; first | done | with_reducible rfl)
                (try simp only [List.getElem_toArray]); (try simp only [List.getElem_cons_succ]); (try simp only [List.getElem_cons_zero]); (try simp only [Act.put]); (try simp only [List.setIfInBounds_toArray]); (try simp only [List.set_cons_succ]); (try simp only [List.set_cons_zero])
                refine wpAnyH_take (i := 3) (v := ?v19) rfl (by kernel_rfl) (by kernel_rfl) (by kernel_rfl) (fun _ _ _ h => h) (Or.inl ⟨by rfl, ?hy19⟩) hHeld ?rest19
                case hy19 => (intro w hSw; (try dsimp only at hSw); (try go_split_ands); go_simp; first | done | with_reducible rfl)
                (try simp only [List.getElem_toArray]); (try simp only [List.getElem_cons_succ]); (try simp only [List.getElem_cons_zero]); (try simp only [Act.put]); (try simp only [List.setIfInBounds_toArray]); (try simp only [List.set_cons_succ]); (try simp only [List.set_cons_zero])
                refine wpAnyH_take (i := 4) (v := ?v20) rfl (by kernel_rfl) (by kernel_rfl) (by kernel_rfl) (fun _ _ _ h => h) (Or.inl ⟨by rfl, ?hy20⟩) hHeld ?rest20
                case hy20 => (intro w hSw; (try dsimp only at hSw); (try go_split_ands); go_simp; first | done | with_reducible rfl)
                (try simp only [List.getElem_toArray]); (try simp only [List.getElem_cons_succ]); (try simp only [List.getElem_cons_zero]); (try simp only [Act.put]); (try simp only [List.setIfInBounds_toArray]); (try simp only [List.set_cons_succ]); (try simp only [List.set_cons_zero])
                refine wpAnyH_take (i := 5) (v := ?v21) rfl (by kernel_rfl) (by kernel_rfl) (by kernel_rfl) (fun _ _ _ h => h) (Or.inl ⟨by rfl, ?hy21⟩) hHeld ?rest21
                case hy21 => (intro w hSw; (try dsimp only at hSw); (try go_split_ands); go_simp; first | done | with_reducible rfl)
                (try simp only [List.getElem_toArray]); (try simp only [List.getElem_cons_succ]); (try simp only [List.getElem_cons_zero]); (try simp only [Act.put]); (try simp only [List.setIfInBounds_toArray]); (try simp only [List.set_cons_succ]); (try simp only [List.set_cons_zero])
                refine wpAnyH_take (i := 6) (v := ?v22) rfl (by kernel_rfl) (by kernel_rfl) (by kernel_rfl) (fun _ _ _ h => h) (Or.inl ⟨by rfl, ?hy22⟩) hHeld ?rest22
                case hy22 => (intro w hSw; (try dsimp only at hSw); (try go_split_ands); go_simp; first | done | with_reducible rfl)
                (try simp only [List.getElem_toArray]); (try simp only [List.getElem_cons_succ]); (try simp only [List.getElem_cons_zero]); (try simp only [Act.put]); (try simp only [List.setIfInBounds_toArray]); (try simp only [List.set_cons_succ]); (try simp only [List.set_cons_zero])
                refine wpAnyH_done (by kernel_rfl) ?_ _
                go_wp2_with fail
                go_roundw
                case rel => exact ⟨mi + 1, by go_num, hlt, Lib.hid (S8.out.leave (by simp)), HV12, HOn⟩
                case measure => simp [RowKit.intOf]; omega
              · have u1 : (y.opn == (c9 : Int)) = false := by simpa using u
                have u2 : decide (y.opn = (c9 : Int)) = false := decide_eq_false u
                have u3 : (y.opn != (c9 : Int)) = true := by simpa using u
                have HO := Lib.hid (open_node (k := k) hlt (fun h0 => u (by rw [← HC.out, free_open h0 HDA.out HPR.out, ← HY.out]; exact HFR.out mi h0)) (by rw [HY.out, HC.out]; exact u))
                clear u
                have HV12 := Lib.hid (show W7.drew.ownsRow w.heap.size 3 1 (.slice (some ⟨g, 0, none⟩) k.l.length k.l.length) k.l.length (intC (opnA k k.t.ds.length k.ps.length)) from ownsRow_below HV.out (Below.refl _ _).drew (Nat.le_refl _))
                have h_x := (S7.out.at 1 rfl)
                refine wp_region_held_drew (S := fun W => W.heap[wr.heap.size]? = some (.cells #[.int .i64 y.kind, .int .i64 y.mode, .int .i64 y.owner, .int .i64 y.links, .int .i64 y.opn, .int .i64 y.up, .string (bs y.data), .slice aon y.names.length cpn] 47 (0, 0)) ∧ W.cell? ⟨g, mi, none⟩ = some (.int .i64 (c9 : Int)) ∧ True) (by kernel_rfl) ⟨(S7.out.at 1 rfl), cc, trivial⟩ (fun hHeld => ?_)
                clear h_x
                have S8 := Lib.hid (S7.out.call (Below.refl W7.heap.size W7).drew)
                generalize W7.drew = W8 at *
                refine wpAnyH_take (i := 0) (v := ?v23) rfl (by kernel_rfl) (by kernel_rfl) (by kernel_rfl) (fun _ _ _ h => h) (Or.inl ⟨by rfl, ?hy23⟩) hHeld ?rest23
                case hy23 => (intro w hSw; (try dsimp only at hSw); (try go_split_ands); go_simp; first | done | with_reducible rfl)
                (try simp only [List.getElem_toArray]); (try simp only [List.getElem_cons_succ]); (try simp only [List.getElem_cons_zero]); (try simp only [Act.put]); (try simp only [List.setIfInBounds_toArray]); (try simp only [List.set_cons_succ]); (try simp only [List.set_cons_zero])
                refine wpAnyH_take (i := 1) (v := ?v24) rfl (by kernel_rfl) (by kernel_rfl) (by kernel_rfl) (fun _ _ _ h => h) (Or.inl ⟨by rfl, ?hy24⟩) hHeld ?rest24
                case hy24 => (intro w hSw; (try dsimp only at hSw); have hcc := (cells8 hSw.1).2.2.2.2.1; (try go_split_ands); go_simp; first | done | with_reducible rfl)
                (try simp only [List.getElem_toArray]); (try simp only [List.getElem_cons_succ]); (try simp only [List.getElem_cons_zero]); (try simp only [Act.put]); (try simp only [List.setIfInBounds_toArray]); (try simp only [List.set_cons_succ]); (try simp only [List.set_cons_zero])
                refine wpAnyH_take (i := 2) (v := ?v25) rfl (by kernel_rfl) (by kernel_rfl) (by kernel_rfl) (fun _ _ _ h => h) (Or.inl ⟨by rfl, ?hy25⟩) hHeld ?rest25
                case hy25 => (intro w hSw; (try dsimp only at hSw); (try go_split_ands); go_simp; first | done | with_reducible rfl)
                (try simp only [List.getElem_toArray]); (try simp only [List.getElem_cons_succ]); (try simp only [List.getElem_cons_zero]); (try simp only [Act.put]); (try simp only [List.setIfInBounds_toArray]); (try simp only [List.set_cons_succ]); (try simp only [List.set_cons_zero])
                refine wpAnyH_take (i := 3) (v := ?v26) rfl (by kernel_rfl) (by kernel_rfl) (by kernel_rfl) (fun _ _ _ h => h) (Or.inl ⟨by rfl, ?hy26⟩) hHeld ?rest26
                case hy26 => (intro w hSw; (try dsimp only at hSw); (try go_split_ands); go_simp; first | done | with_reducible rfl)
                (try simp only [List.getElem_toArray]); (try simp only [List.getElem_cons_succ]); (try simp only [List.getElem_cons_zero]); (try simp only [Act.put]); (try simp only [List.setIfInBounds_toArray]); (try simp only [List.set_cons_succ]); (try simp only [List.set_cons_zero])
                refine wpAnyH_take (i := 4) (v := ?v27) rfl (by kernel_rfl) (by kernel_rfl) (by kernel_rfl) (fun _ _ _ h => h) (Or.inl ⟨by rfl, ?hy27⟩) hHeld ?rest27
                case hy27 => (intro w hSw; (try dsimp only at hSw); (try go_split_ands); go_simp; first | done | with_reducible rfl)
                (try simp only [List.getElem_toArray]); (try simp only [List.getElem_cons_succ]); (try simp only [List.getElem_cons_zero]); (try simp only [Act.put]); (try simp only [List.setIfInBounds_toArray]); (try simp only [List.set_cons_succ]); (try simp only [List.set_cons_zero])
                refine wpAnyH_take (i := 5) (v := ?v28) rfl (by kernel_rfl) (by kernel_rfl) (by kernel_rfl) (fun _ _ _ h => h) (Or.inl ⟨by rfl, ?hy28⟩) hHeld ?rest28
                case hy28 => (intro w hSw; (try dsimp only at hSw); (try go_split_ands); go_simp; first | done | with_reducible rfl)
                (try simp only [List.getElem_toArray]); (try simp only [List.getElem_cons_succ]); (try simp only [List.getElem_cons_zero]); (try simp only [Act.put]); (try simp only [List.setIfInBounds_toArray]); (try simp only [List.set_cons_succ]); (try simp only [List.set_cons_zero])
                refine wpAnyH_take (i := 6) (v := ?v29) rfl (by kernel_rfl) (by kernel_rfl) (by kernel_rfl) (fun _ _ _ h => h) (Or.inl ⟨by rfl, ?hy29⟩) hHeld ?rest29
                case hy29 => (intro w hSw; (try dsimp only at hSw); (try go_split_ands); go_simp; first | done | with_reducible rfl)
                (try simp only [List.getElem_toArray]); (try simp only [List.getElem_cons_succ]); (try simp only [List.getElem_cons_zero]); (try simp only [Act.put]); (try simp only [List.setIfInBounds_toArray]); (try simp only [List.set_cons_succ]); (try simp only [List.set_cons_zero])
                refine wpAnyH_done (by kernel_rfl) ?_ _
                go_wp2_with fail
                go_ret
                exact ⟨by rw [HO.out]; rfl, S8.out.bel⟩
            · have iL4 : decide (mi < k.l.length) = false := decide_eq_false (by omega)
              have iM4 : decide ((mi : Int) < (k.l.length : Int)) = false := decide_eq_false (by omega)
              have HO := Lib.hid (open_yes (k := k) HDA.out (fun q hq => HOQ.out q (by omega)))
              go_wp2_with fail
              go_ret
              exact ⟨by rw [HO.out]; rfl, S5.out.bel⟩
end Go.Proofs.YtinoogmaikhpjaaGreatDoor
