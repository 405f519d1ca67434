import Derived.Test.YtinoogmaikhpjaaGreatDoorR26
import Derived.Test.YtinoogmaikhpjaaGreatDoorR36
namespace Go.Proofs.YtinoogmaikhpjaaGreatDoor
open Go.RowKit Go.Shelf
attribute [local go_sem ↓] Go.wp_at_zero Go.wp_at_succ
theorem eqDescP (x y : DescL) (w : World) : (Op.equalIn 10000 76 (dvalD x) (dvalD y)).run Tryz.prog w = .ok (decide (x = y)) w := by
  have u3 := Tryz.underlying3
  have u4 := Tryz.underlying4
  have a3 := Tryz.isAgg3
  have a4 := Tryz.isAgg4
  have hS : Tryz.prog.underlying 76 = some (.struct (Tryz.prog.fieldsOf 76)) := by kernel_rfl
  rw [show (10000 : Nat) = 9998 + 1 + 1 from rfl, run_equalIn_agg w (9998 + 1) 76 _ _ hS (by kernel_rfl)]
  simp only [Program.fieldsOf, Tryz.underlying76]
  go_simp
  obtain ⟨x1, x2, x3, x4, x5, x6⟩ := x
  obtain ⟨y1, y2, y3, y4, y5, y6⟩ := y
  by_cases h1 : x1 = y1 <;> by_cases h2 : x2 = y2 <;> by_cases h3 : x3 = y3 <;> by_cases h4 : x4 = y4 <;> by_cases h5 : x5 = y5 <;> by_cases h6 : x6 = y6 <;> simp [h1, h2, h3, h4, h5, h6]
theorem eqDescPG : Tryz.prog.eqGuardType Tryz.prog.depth 76 = false := by kernel_rfl
set_option maxRecDepth 100000 in
set_option maxHeartbeats 4000000 in
theorem pright_c {X : Nat → Prop} (t : TabL) (ad af : Option Addr) (cap capf : Nat) (w : World) (hT : TabX t (.slice ad t.ds.length cap) (.slice af t.fs.length capf) X w) (hz : SizeT t) :
    Calls Tryz.prog 12 #[tabV ad t.ds.length cap af t.fs.length capf] w fun e w' => e = .returned (.bool (rightB t)) ∧ Below w.heap.size w w' := by
  have S0 := Lib.hid (Sf.start (w := w) (X := fun _ => False) (G := [TabX t (.slice ad t.ds.length cap) (.slice af t.fs.length capf)]) (fun _ h => h.elim) (th1 (TabX.firm _ _ _) ((TabX.firm _ _ _).sub hT fun _ h => h.elim)))
  have H0 := Lib.hid (((TabX.firm _ _ _).sub hT fun _ h => h.elim : TabX t (.slice ad t.ds.length cap) (.slice af t.fs.length capf) (fun _ => False) w))
  obtain ⟨iI, hI, hIz, hIs, hIb⟩ := info_parts infoInt
  have HZ := Lib.hid hz
  have hgd := eqDescPG
  have hl1 := hz.1
  clear hT hz
  go_enter Tryz.func12, Tryz.ntmps12
  go_upto_region 1 with (fail)
  refine code_fresh1 ?_
  intro W1 hb hA0 hs
  have S1 := Lib.hid (S0.out.new1 hb hA0)
  clear hb hA0 hs
  obtain ⟨d0, d1⟩ := cells2 (S1.out.at 0 rfl)
  go_upto_region 2 with (first | (at_make; refine wpList_make_full _ rfl (.tmp 12) (.tmp 12) 48 rfl W1.heap.size 3 iI _ 1 Tryz.underlying48 hI hIz hIs .i64 .i64 _ _ t.ds.length rfl rfl (by rfl) (by rfl) (by rw [hIb]; omega) (by unfold maxLen; omega) (Nat.le_refl _) ?_; intro W2 ho2 hg2; have S2 := Lib.hid (S1.out.grown (fun P hP => by rw [List.mem_singleton] at hP; subst hP; exact H0.out) hg2 (fun g e => by cases e)); have HV := Lib.hid (own_mono (own_ints ho2) S1.out.bel.size); clear ho2 hg2))
  clear d0 d1 hl1
  obtain ⟨g, hg⟩ : ∃ g, g = W1.heap.size := ⟨_, rfl⟩
  rw [List.length_replicate, ← cP_zero] at HV
  rw [← hg] at HV ⊢
  clear hg
  replace HV := Lib.hid (show W2.ownsRow w.heap.size 3 1 (.slice (some ⟨g, 0, none⟩) t.ds.length t.ds.length) t.ds.length (intC (cP t.ds.length (t.fs.take 0) [])) from HV.out)
  have hl2 : t.fs.length ≤ 20 := HZ.out.2.1
  obtain ⟨-, d1⟩ := cells2 (S2.out.at 0 rfl)
  go_wp2_with fail
  go_loopw [17] (fun i wr => ∃ p : Nat, i = .int .i64 p ∧ p ≤ t.fs.length ∧ Hid (Sf (fun _ => False) w [(w.heap.size, #[.slice ad t.ds.length cap, .slice af t.fs.length capf], 28)] [TabX t (.slice ad t.ds.length cap) (.slice af t.fs.length capf)] wr) ∧ Hid (wr.ownsRow w.heap.size 3 1 (.slice (some ⟨g, 0, none⟩) t.ds.length t.ds.length) t.ds.length (intC (cP t.ds.length (t.fs.take p) []))) ∧ Hid (∀ r ∈ t.fs.take p, rowOk t.ds.length r)) (fun i _ => t.fs.length - (RowKit.intOf i).toNat)
  case atStart => exact ⟨0, rfl, Nat.zero_le _, S2, HV, Lib.hid (fun r hr => by cases hr)⟩
  case round =>
    clear S2 HV d1 S1
    obtain ⟨p, rfl, hp, S7, HV, HRW⟩ := hrel
    obtain ⟨-, d1⟩ := cells2 (S7.out.at 0 rfl)
    by_cases hlt : p < t.fs.length
    · have iL2 : decide (p < t.fs.length) = true := decide_eq_true (by omega)
      have iM2 : decide ((p : Int) < (t.fs.length : Int)) = true := decide_eq_true (by omega)
      have p0 : (0 : Int) ≤ (p : Int) := by omega
      have p1 : (p : Int) < (t.fs.length : Int) := by omega
      have wp : IntKind.i64.wrap ((p : Int) + 1) = (p : Int) + 1 := Go.IntWalk.i64_in _ (by omega)
      obtain ⟨b, off, ar, cr, eaf, -, cR, hR⟩ := TabX.row (S7.out.g 0 rfl) p hlt
      subst eaf
      have hR0 := TabX.row H0.out p hlt
      obtain ⟨b9, off9, ar9, cr9, eaf9, hbw, cR9, hR9⟩ := hR0
      injection eaf9 with eaf9
      injection eaf9 with e9a e9b _
      subst e9a
      subst e9b
      have e9 : Value.slice ar (t.fs[p]).length cr = .slice ar9 (t.fs[p]).length cr9 := Option.some.inj (cR.symm.trans ((S7.out.bel.cell (p := ⟨b, off + p, none⟩) hbw).trans cR9))
      injection e9 with e9a _ e9b
      subst e9a
      subst e9b
      clear cR9 hbw hR
      obtain ⟨r, hr⟩ : ∃ r, r = t.fs[p] := ⟨_, rfl⟩
      have hrl : r.length ≤ 20 := by rw [hr]; exact HZ.out.2.2 _ (List.getElem_mem hlt)
      rw [← hr] at cR hR9
      have HRr := Lib.hid hr
      have HR9 := Lib.hid hR9
      clear hr hR9
      by_cases h8 : r.length = 8
      · have HK : Hid (8 ≤ r.length ∧ r.length ≤ 8) := Lib.hid (by omega)
        have z1 : ((r.length : Int) == 8) = true := by simp; omega
        have z2 : decide ((r.length : Int) = 8) = true := decide_eq_true (by omega)
        have z3 : decide (r.length = 8) = true := decide_eq_true (by omega)
        have z4 : (r.length == 8) = true := by simp; omega
        have z5 : ((r.length : Int) != 8) = false := by simp; omega
        clear h8
        have HV0 := Lib.hid (show wr.ownsRow w.heap.size 3 1 (.slice (some ⟨g, 0, none⟩) t.ds.length t.ds.length) t.ds.length (intC (cP t.ds.length (t.fs.take p) (r.take 0))) from HV.out)
        go_wp2_with fail
        clear z1 z2 z3 z4 z5
        go_loopw [26] (fun i wr => ∃ k : Nat, i = .int .i64 k ∧ k ≤ r.length ∧ Hid (Sf (fun _ => False) w [(w.heap.size, #[.slice ad t.ds.length cap, .slice (some ⟨b, off, none⟩) t.fs.length capf], 28)] [TabX t (.slice ad t.ds.length cap) (.slice (some ⟨b, off, none⟩) t.fs.length capf)] wr) ∧ Hid (wr.ownsRow w.heap.size 3 1 (.slice (some ⟨g, 0, none⟩) t.ds.length t.ds.length) t.ds.length (intC (cP t.ds.length (t.fs.take p) (r.take k)))) ∧ Hid (∀ x ∈ r.take k, -1 ≤ x ∧ x < (t.ds.length : Int))) (fun i _ => r.length - (RowKit.intOf i).toNat)
        case atStart => exact ⟨0, rfl, Nat.zero_le _, S7, HV0, Lib.hid (fun x hx => by cases hx)⟩
        case round =>
          clear S7 HV0 HV cR d1
          obtain ⟨k, rfl, hk, S9, HV, HX⟩ := hrel
          by_cases hkr : k < r.length
          · have iL3 : decide (k < r.length) = true := decide_eq_true (by omega)
            have iM3 : decide ((k : Int) < (r.length : Int)) = true := decide_eq_true (by omega)
            have k0 : (0 : Int) ≤ (k : Int) := by omega
            have k1 : (k : Int) < (r.length : Int) := by omega
            have wk : IntKind.i64.wrap ((k : Int) + 1) = (k : Int) + 1 := Go.IntWalk.i64_in _ (by omega)
            have hR := (RdX.firm _ _ _ _).keep HR9.out S9.out.bel
            obtain ⟨b3, off3, ear, cI⟩ := RdX.int hR k hkr
            subst ear
            obtain ⟨v, hv⟩ : ∃ v, v = r[k] := ⟨_, rfl⟩
            rw [← hv] at cI
            have HVV := Lib.hid hv
            clear hv hR
            have HMM := Lib.hid (show v ∈ t.fs[p] by rw [HVV.out, ← HRr.out]; exact List.getElem_mem hkr)
            by_cases hv1 : v = -1
            · have i1 : decide (v = -1) = true := decide_eq_true hv1
              have HX2 : Hid (∀ x ∈ r.take (k + 1), -1 ≤ x ∧ x < (t.ds.length : Int)) := Lib.hid (by rw [List.take_succ_eq_append_getElem hkr]; intro x hx; rcases List.mem_append.1 hx with hx | hx; exact HX.out x hx; rw [List.mem_singleton, ← HVV.out] at hx; omega)
              have HVn : Hid (wr.ownsRow w.heap.size 3 1 (.slice (some ⟨g, 0, none⟩) t.ds.length t.ds.length) t.ds.length (intC (cP t.ds.length (t.fs.take p) (r.take (k + 1))))) := Lib.hid (by rw [cP_same (t.fs.take p) r hkr (by rw [← HVV.out]; omega)]; exact HV.out)
              clear HVV
              subst hv1
              go_wp2_with fail
              go_roundw
              case rel => exact ⟨k + 1, by go_num, hkr, S9, HVn, HX2⟩
              case measure => simp [RowKit.intOf]; omega
            · have i1 : decide (v = -1) = false := decide_eq_false hv1
              have i2 : (v == -1) = false := by rw [beq_eq_false_iff_ne]; exact hv1
              have h_d := S9.out.at 0 rfl
              go_wp2_with (first | (refine wpList_load_row rfl 28 _ rfl _ rfl 28 _ (0, 0) _ h_d Tryz.underlying28 rfl (by kernel_rfl) ?_))
              refine (phasD_c t _ _ _ _ _ (S9.out.g 0 rfl) v).mono ?_
              rintro e W10 ⟨rfl, hb⟩
              have S10 := Lib.hid (S9.out.call hb)
              replace HV := Lib.hid (ownsRow_below HV.out hb (Nat.le_refl _))
              clear hb h_d cI
              cases hin : inD t v with
              | false =>
                have HN := Lib.hid (right_no (t := t) fun hRt => by have h1 := (hRt.1 _ (List.getElem_mem hlt)).2 v HMM.out; unfold inD at hin; rw [Bool.and_eq_false_iff, decide_eq_false_iff_not, decide_eq_false_iff_not] at hin; omega)
                clear hin
                go_wp2_with fail
                go_ret
                exact ⟨by rw [HN.out]; rfl, S10.out.bel⟩
              | true =>
                have hvb : 0 ≤ v ∧ v < (t.ds.length : Int) := by unfold inD at hin; simpa only [Bool.and_eq_true, decide_eq_true_iff] using hin
                clear hin
                have HX2 : Hid (∀ x ∈ r.take (k + 1), -1 ≤ x ∧ x < (t.ds.length : Int)) := Lib.hid (by rw [List.take_succ_eq_append_getElem hkr]; intro x hx; rcases List.mem_append.1 hx with hx | hx; exact HX.out x hx; rw [List.mem_singleton, ← HVV.out] at hx; subst hx; omega)
                obtain ⟨i, rfl⟩ := Int.eq_ofNat_of_zero_le hvb.1
                have hin : i < t.ds.length := by omega
                have HIN := Lib.hid hin
                have i4 : (0 : Int) ≤ (i : Int) := by omega
                have i5 : (i : Int) < (t.ds.length : Int) := by omega
                obtain ⟨g2, cpg, eg, hgl, hcg, hfg⟩ := own_at HV.out (by omega)
                injection eg with ega egc egb
                injection ega with ega
                injection ega with ega
                subst ega
                clear egc egb
                have cc := hcg i _ (intC_at _ i (by rw [cP_len]; exact hin))
                rw [cP_at _ _ hin] at cc
                obtain ⟨c, hc⟩ : ∃ c, c = refsOf (t.fs.take p) (i : Int) + (r.take k).count (i : Int) := ⟨_, rfl⟩
                have hcs := cP_small HZ.out p (r.take k) (by rw [List.length_take]; omega) i
                rw [← hc] at cc hcs
                have HC := Lib.hid hc
                have wc : IntKind.i64.wrap ((c : Int) + 1) = (c : Int) + 1 := Go.IntWalk.i64_in _ (by omega)
                clear hv1 hvb i1 i2 hc hcg hcs hgl
                go_upto_region 14 with (fail)
                clear cc hfg
                have hgw : W10.grownBy (W10.setCell ⟨g, i, none⟩ (.int .i64 ((c : Int) + 1))) (some g) := grown_setT W10 g i [.int .i64 ((c : Int) + 1)]
                have HVn : Hid ((W10.setCell ⟨g, i, none⟩ (.int .i64 ((c : Int) + 1))).ownsRow w.heap.size 3 1 (.slice (some ⟨g, 0, none⟩) t.ds.length t.ds.length) t.ds.length (intC (cP t.ds.length (t.fs.take p) (r.take (k + 1))))) := Lib.hid (own_seg HV.out (o := i) (vs := [.int .i64 ((c : Int) + 1)]) (by rw [List.length_singleton]; have := HIN.out; omega) (by rw [cP_next (t.fs.take p) r hkr HVV.out.symm HIN.out, ← HC.out]; unfold intC; rw [List.map_set, List.set_eq_take_append_cons_drop, if_pos (by rw [List.length_map, cP_len]; exact HIN.out)]; rfl) rfl)
                have S11 := Lib.hid (S10.out.grown (fun P hP => by rw [List.mem_singleton] at hP; subst hP; exact H0.out) hgw (fun g e => ⟨(HV.out.lt g e).1, S10.out.apart HV.out rfl g e⟩))
                clear hgw
                generalize W10.setCell ⟨g, i, none⟩ (.int .i64 ((c : Int) + 1)) = W11 at *
                go_wp2_with fail
                go_roundw
                case rel => exact ⟨k + 1, by go_num, hkr, S11, HVn, HX2⟩
                case measure => simp [RowKit.intOf]; omega
          · have iL3 : decide (k < r.length) = false := decide_eq_false (by omega)
            have iM3 : decide ((k : Int) < (r.length : Int)) = false := decide_eq_false (by omega)
            have htk : r.take k = r := List.take_of_length_le (by omega)
            have hts : t.fs.take (p + 1) = t.fs.take p ++ [r] := by rw [HRr.out]; exact List.take_succ_eq_append_getElem hlt
            have HVn : Hid (wr.ownsRow w.heap.size 3 1 (.slice (some ⟨g, 0, none⟩) t.ds.length t.ds.length) t.ds.length (intC (cP t.ds.length (t.fs.take (p + 1)) []))) := Lib.hid (by rw [hts, cP_row]; have := HV.out; rw [htk] at this; exact this)
            have HRn : Hid (∀ r ∈ t.fs.take (p + 1), rowOk t.ds.length r) := Lib.hid (by rw [hts]; intro s hs; rcases List.mem_append.1 hs with hs | hs; exact HRW.out s hs; rw [List.mem_singleton] at hs; subst hs; exact ⟨by have := HK.out; omega, by have := HX.out; rw [htk] at this; exact this⟩)
            clear hkr htk hts
            go_wp2_with fail
            go_roundw
            case rel => exact ⟨p + 1, by go_num, hlt, S9, HVn, HRn⟩
            case measure => simp [RowKit.intOf]; omega
      · have z1 : ((r.length : Int) == 8) = false := by simp; omega
        have z2 : decide ((r.length : Int) = 8) = false := decide_eq_false (by omega)
        have z3 : decide (r.length = 8) = false := decide_eq_false (by omega)
        have z4 : (r.length == 8) = false := by simp; omega
        have z5 : ((r.length : Int) != 8) = true := by simp; omega
        have HN := Lib.hid (right_no (t := t) fun hRt => h8 (by rw [HRr.out]; exact (hRt.1 _ (List.getElem_mem hlt)).1))
        clear h8
        go_wp2_with fail
        go_ret
        exact ⟨by rw [HN.out]; rfl, S7.out.bel⟩
    · have iL2 : decide (p < t.fs.length) = false := decide_eq_false (by omega)
      have iM2 : decide ((p : Int) < (t.fs.length : Int)) = false := decide_eq_false (by omega)
      have hts : t.fs.take p = t.fs := List.take_of_length_le (by omega)
      have HVn : Hid (wr.ownsRow w.heap.size 3 1 (.slice (some ⟨g, 0, none⟩) t.ds.length t.ds.length) t.ds.length (intC (cP t.ds.length t.fs []))) := Lib.hid (by have := HV.out; rw [hts] at this; exact this)
      have HRn : Hid (∀ r ∈ t.fs, rowOk t.ds.length r) := Lib.hid (by have := HRW.out; rw [hts] at this; exact this)
      clear hlt hts HV HRW
      have hl1 : t.ds.length ≤ 1000 := HZ.out.1
      obtain ⟨d0, -⟩ := cells2 (S7.out.at 0 rfl)
      go_wp2_with fail
      go_loopw [47] (fun i wr => ∃ k : Nat, i = .int .i64 k ∧ k ≤ t.ds.length ∧ Hid (Sf (fun _ => False) w [(w.heap.size, #[.slice ad t.ds.length cap, .slice af t.fs.length capf], 28)] [TabX t (.slice ad t.ds.length cap) (.slice af t.fs.length capf)] wr) ∧ Hid (wr.ownsRow w.heap.size 3 1 (.slice (some ⟨g, 0, none⟩) t.ds.length t.ds.length) t.ds.length (intC (cP t.ds.length t.fs []))) ∧ Hid (∀ (j : Nat) (d : DescL), j < k → t.ds[j]? = some d → descOk t.fs j d)) (fun i _ => t.ds.length - (RowKit.intOf i).toNat)
      case atStart => exact ⟨0, rfl, Nat.zero_le _, S7, HVn, Lib.hid (fun j d hj => by cases hj)⟩
      case round =>
        clear S7 HVn d0 d1
        obtain ⟨k, rfl, hk, S9, HV, HD⟩ := hrel
        by_cases hlt : k < t.ds.length
        · have iL3 : decide (k < t.ds.length) = true := decide_eq_true (by omega)
          have iM3 : decide ((k : Int) < (t.ds.length : Int)) = true := decide_eq_true (by omega)
          have k0 : (0 : Int) ≤ (k : Int) := by omega
          have k1 : (k : Int) < (t.ds.length : Int) := by omega
          have wk : IntKind.i64.wrap ((k : Int) + 1) = (k : Int) + 1 := Go.IntWalk.i64_in _ (by omega)
          obtain ⟨b5, off5, e5, cD⟩ := TabX.range (S9.out.g 0 rfl) k hlt
          subst e5
          obtain ⟨y, hy⟩ : ∃ y, y = t.ds[k] := ⟨_, rfl⟩
          rw [← hy] at cD
          have HYK := Lib.hid (show t.ds[k]? = some y by rw [hy]; exact List.getElem?_eq_getElem hlt)
          clear hy
          go_upto_region 19 with (first | (refine wpList_load_mid rfl 76 _ rfl _ (off5 + k * 6) rfl _ _ cD Tryz.underlying76 rfl (by kernel_rfl) ?_) | (refine wpList_fresh1 ?_; intro W10 hb hn hs; have S10 := Lib.hid (S9.out.new1 hb hn); have HB10 := Lib.hid hb; have h_x := S10.out.at 1 rfl; clear hb hn hs) | (refine wpList_store_row rfl 76 _ _ rfl _ rfl rfl h_x rfl (by kernel_rfl) rfl ?_; intro W11 hb hg hs hn; have S11 := Lib.hid (S10.out.set 1 rfl hb hg hs hn); have HV11 := Lib.hid (ownsRow_below HV.out (HB10.out.trans hb) (Nat.le_refl _)); clear hb hg hs hn))
          clear cD h_x HB10 HV
          have HV := HV11
          clear HV11
          obtain ⟨g2, cpg, eg, hgl, hcg, hfg⟩ := own_at HV.out (by omega)
          injection eg with ega egc egb
          injection ega with ega
          injection ega with ega
          subst ega
          clear egc egb
          have cc := hcg k _ (intC_at _ k (by rw [cP_len]; exact hlt))
          rw [cP_at _ _ hlt] at cc
          obtain ⟨c, hc⟩ : ∃ c, c = refsOf t.fs (k : Int) := ⟨_, rfl⟩
          rw [List.count_nil, Nat.add_zero, ← hc] at cc
          have HC := Lib.hid hc
          clear hc hcg hfg hgl
          by_cases u : y.refs = (c : Int)
          · have u1 : (y.refs == (c : Int)) = true := by simpa using u
            have u2 : decide (y.refs = (c : Int)) = true := decide_eq_true u
            have u3 : (y.refs != (c : Int)) = false := by simpa using u
            have HU := Lib.hid u
            clear u
            by_cases z : y.refs = 0
            · have z1 : (y.refs == 0) = true := by simpa using z
              have z2 : decide (y.refs = 0) = true := decide_eq_true z
              have z3 : (y.refs != 0) = false := by simpa using z
              have HZ0 := Lib.hid z
              clear z
              by_cases e : y = zeroD
              · have e2 : decide (y = zeroD) = true := decide_eq_true e
                have HE := Lib.hid e
                have heq : ∀ w, (Op.equalIn 10000 76 (.agg #[.int .i64 y.ino, .int .i64 y.pos, .bool y.rd, .bool y.wr, .int .i64 y.refs, .int .i64 y.lock]) (.agg #[.int .i64 0, .int .i64 0, .bool false, .bool false, .int .i64 0, .int .i64 0])).run Tryz.prog w = .ok (decide (y = zeroD)) w := fun w => eqDescP y zeroD w
                clear e
                have HV12 := Lib.hid (show W11.drew.ownsRow w.heap.size 3 1 (.slice (some ⟨g, 0, none⟩) t.ds.length t.ds.length) t.ds.length (intC (cP t.ds.length t.fs [])) from ownsRow_below HV.out (Below.refl _ _).drew (Nat.le_refl _))
                have h_x := (S11.out.at 1 rfl)
                refine wp_region_held_drew (S := fun W => W.heap[wr.heap.size]? = some (.cells #[.int .i64 y.ino, .int .i64 y.pos, .bool y.rd, .bool y.wr, .int .i64 y.refs, .int .i64 y.lock] 76 (0, 0)) ∧ W.cell? ⟨wr.heap.size, 4, none⟩ = some (.int .i64 y.refs) ∧ W.cell? ⟨g, k, none⟩ = some (.int .i64 (c : Int)) ∧ True) (by kernel_rfl) ⟨(S11.out.at 1 rfl), (cells6 (S11.out.at 1 rfl)).2.2.2.2.1, cc, trivial⟩ (fun hHeld => ?_)
                clear h_x
                have S12 := Lib.hid (S11.out.call (Below.refl W11.heap.size W11).drew)
                generalize W11.drew = W12 at *
                refine wpAnyH_take (i := 0) (v := ?v1) rfl (by kernel_rfl) (by kernel_rfl) (by kernel_rfl) (fun _ _ _ h => h) (Or.inl ⟨by rfl, ?hy1⟩) hHeld ?rest1
                case hy1 => (intro w hSw; (try dsimp only at hSw); (try go_split_ands); go_simp; first | done | with_reducible rfl)
                (try simp only [List.getElem_toArray]); (try simp only [List.getElem_cons_succ]); (try simp only [List.getElem_cons_zero]); (try simp only [Act.put]); (try simp only [List.setIfInBounds_toArray]); (try simp only [List.set_cons_succ]); (try simp only [List.set_cons_zero])
                refine wpAnyH_take (i := 1) (v := ?v2) rfl (by kernel_rfl) (by kernel_rfl) (by kernel_rfl) (fun _ _ _ h => h) (Or.inl ⟨by rfl, ?hy2⟩) hHeld ?rest2
                case hy2 => (intro w hSw; (try dsimp only at hSw); (try go_split_ands); go_simp; first | done | with_reducible rfl)
                (try simp only [List.getElem_toArray]); (try simp only [List.getElem_cons_succ]); (try simp only [List.getElem_cons_zero]); (try simp only [Act.put]); (try simp only [List.setIfInBounds_toArray]); (try simp only [List.set_cons_succ]); (try simp only [List.set_cons_zero])
                refine wpAnyH_take (i := 2) (v := ?v3) rfl (by kernel_rfl) (by kernel_rfl) (by kernel_rfl) (fun _ _ _ h => h) (Or.inl ⟨by rfl, ?hy3⟩) hHeld ?rest3
                case hy3 => (intro w hSw; (try dsimp only at hSw); (try go_split_ands); go_simp; first | done | with_reducible rfl)
                (try simp only [List.getElem_toArray]); (try simp only [List.getElem_cons_succ]); (try simp only [List.getElem_cons_zero]); (try simp only [Act.put]); (try simp only [List.setIfInBounds_toArray]); (try simp only [List.set_cons_succ]); (try simp only [List.set_cons_zero])
                refine wpAnyH_take (i := 3) (v := ?v4) rfl (by kernel_rfl) (by kernel_rfl) (by kernel_rfl) (fun _ _ _ h => h) (Or.inl ⟨by rfl, ?hy4⟩) hHeld ?rest4
                case hy4 => (intro w hSw; (try dsimp only at hSw); (try go_split_ands); go_simp; first | done | with_reducible rfl)
                (try simp only [List.getElem_toArray]); (try simp only [List.getElem_cons_succ]); (try simp only [List.getElem_cons_zero]); (try simp only [Act.put]); (try simp only [List.setIfInBounds_toArray]); (try simp only [List.set_cons_succ]); (try simp only [List.set_cons_zero])
                refine wpAnyH_take (i := 4) (v := ?v5) rfl (by kernel_rfl) (by kernel_rfl) (by kernel_rfl) (fun _ _ _ h => h) (Or.inl ⟨by rfl, ?hy5⟩) hHeld ?rest5
                case hy5 => (intro w hSw; (try dsimp only at hSw); (try go_split_ands); go_simp; first | done | with_reducible rfl)
                (try simp only [List.getElem_toArray]); (try simp only [List.getElem_cons_succ]); (try simp only [List.getElem_cons_zero]); (try simp only [Act.put]); (try simp only [List.setIfInBounds_toArray]); (try simp only [List.set_cons_succ]); (try simp only [List.set_cons_zero])
                refine wpAnyH_take (i := 5) (v := ?v6) rfl (by kernel_rfl) (by kernel_rfl) (by kernel_rfl) (fun _ _ _ h => h) (Or.inl ⟨by rfl, ?hy6⟩) hHeld ?rest6
                case hy6 => (intro w hSw; (try dsimp only at hSw); (try go_split_ands); go_simp; first | done | with_reducible rfl)
                (try simp only [List.getElem_toArray]); (try simp only [List.getElem_cons_succ]); (try simp only [List.getElem_cons_zero]); (try simp only [Act.put]); (try simp only [List.setIfInBounds_toArray]); (try simp only [List.set_cons_succ]); (try simp only [List.set_cons_zero])
                refine wpAnyH_take (i := 6) (v := ?v7) rfl (by kernel_rfl) (by kernel_rfl) (by kernel_rfl) (fun _ _ _ h => h) (Or.inl ⟨by rfl, ?hy7⟩) hHeld ?rest7
                case hy7 => (intro w hSw; (try dsimp only at hSw); (try go_split_ands); go_simp; first | done | with_reducible rfl)
                (try simp only [List.getElem_toArray]); (try simp only [List.getElem_cons_succ]); (try simp only [List.getElem_cons_zero]); (try simp only [Act.put]); (try simp only [List.setIfInBounds_toArray]); (try simp only [List.set_cons_succ]); (try simp only [List.set_cons_zero])
                refine wpAnyH_take (i := 7) (v := ?v8) rfl (by kernel_rfl) (by kernel_rfl) (by kernel_rfl) (fun _ _ _ h => h) (Or.inl ⟨by rfl, ?hy8⟩) hHeld ?rest8
                case hy8 => (intro w hSw; (try dsimp only at hSw); (try go_split_ands); go_simp; first | done | with_reducible rfl)
                (try simp only [List.getElem_toArray]); (try simp only [List.getElem_cons_succ]); (try simp only [List.getElem_cons_zero]); (try simp only [Act.put]); (try simp only [List.setIfInBounds_toArray]); (try simp only [List.set_cons_succ]); (try simp only [List.set_cons_zero])
                refine wpAnyH_take (i := 8) (v := ?v9) rfl (by kernel_rfl) (by kernel_rfl) (by kernel_rfl) (fun _ _ _ h => h) (Or.inl ⟨by rfl, ?hy9⟩) hHeld ?rest9
                case hy9 => (intro w hSw; (try dsimp only at hSw); (try go_split_ands); go_simp; first | done | with_reducible rfl)
                (try simp only [List.getElem_toArray]); (try simp only [List.getElem_cons_succ]); (try simp only [List.getElem_cons_zero]); (try simp only [Act.put]); (try simp only [List.setIfInBounds_toArray]); (try simp only [List.set_cons_succ]); (try simp only [List.set_cons_zero])
                refine wpAnyH_take (i := 9) (v := ?v10) rfl (by kernel_rfl) (by kernel_rfl) (by kernel_rfl) (fun _ _ _ h => h) (Or.inl ⟨by rfl, ?hy10⟩) hHeld ?rest10
                case hy10 => (intro w hSw; (try dsimp only at hSw); (try go_split_ands); go_simp; first | done | with_reducible rfl)
                (try simp only [List.getElem_toArray]); (try simp only [List.getElem_cons_succ]); (try simp only [List.getElem_cons_zero]); (try simp only [Act.put]); (try simp only [List.setIfInBounds_toArray]); (try simp only [List.set_cons_succ]); (try simp only [List.set_cons_zero])
                refine wpAnyH_take (i := 10) (v := ?v11) rfl (by kernel_rfl) (by kernel_rfl) (by kernel_rfl) (fun _ _ _ h => h) (Or.inl ⟨by rfl, ?hy11⟩) hHeld ?rest11
                case hy11 => (intro w hSw; (try dsimp only at hSw); (try go_split_ands); go_simp; first | done | with_reducible rfl)
                (try simp only [List.getElem_toArray]); (try simp only [List.getElem_cons_succ]); (try simp only [List.getElem_cons_zero]); (try simp only [Act.put]); (try simp only [List.setIfInBounds_toArray]); (try simp only [List.set_cons_succ]); (try simp only [List.set_cons_zero])
                refine wpAnyH_take (i := 11) (v := ?v12) rfl (by kernel_rfl) (by kernel_rfl) (by kernel_rfl) (fun _ _ _ h => h) (Or.inl ⟨by rfl, ?hy12⟩) hHeld ?rest12
                case hy12 => (intro w hSw; (try dsimp only at hSw); (try go_split_ands); go_simp; first | done | with_reducible rfl)
                (try simp only [List.getElem_toArray]); (try simp only [List.getElem_cons_succ]); (try simp only [List.getElem_cons_zero]); (try simp only [Act.put]); (try simp only [List.setIfInBounds_toArray]); (try simp only [List.set_cons_succ]); (try simp only [List.set_cons_zero])
                refine wpAnyH_take (i := 12) rfl (by kernel_rfl) (by kernel_rfl) (by kernel_rfl) (fun _ _ _ h => h) (yieldsIf_load_row (by rfl) 76 _ rfl _ rfl 76 _ (0, 0) _ (fun _ h => h.1) Tryz.underlying76 rfl (by kernel_rfl)) hHeld ?_
                (try simp only [List.getElem_toArray]); (try simp only [List.getElem_cons_succ]); (try simp only [List.getElem_cons_zero]); (try simp only [Act.put]); (try simp only [List.setIfInBounds_toArray]); (try simp only [List.set_cons_succ]); (try simp only [List.set_cons_zero])
                refine wpAnyH_take (i := 13) (v := ?v13) rfl (by kernel_rfl) (by kernel_rfl) (by kernel_rfl) (fun _ _ _ h => h) (Or.inl ⟨by rfl, ?hy13⟩) hHeld ?rest13
                case hy13 => (intro w hSw; (try dsimp only at hSw); (try go_split_ands); go_simp; first | done | with_reducible rfl)
                (try simp only [List.getElem_toArray]); (try simp only [List.getElem_cons_succ]); (try simp only [List.getElem_cons_zero]); (try simp only [Act.put]); (try simp only [List.setIfInBounds_toArray]); (try simp only [List.set_cons_succ]); (try simp only [List.set_cons_zero])
                refine wpAnyH_take (i := 14) (v := ?v14) rfl (by kernel_rfl) (by kernel_rfl) (by kernel_rfl) (fun _ _ _ h => h) (Or.inl ⟨by rfl, ?hy14⟩) hHeld ?rest14
                case hy14 => (intro w hSw; (try dsimp only at hSw); (try go_split_ands); go_simp; first | done | with_reducible rfl)
                (try simp only [List.getElem_toArray]); (try simp only [List.getElem_cons_succ]); (try simp only [List.getElem_cons_zero]); (try simp only [Act.put]); (try simp only [List.setIfInBounds_toArray]); (try simp only [List.set_cons_succ]); (try simp only [List.set_cons_zero])
                refine wpAnyH_take (i := 15) (v := ?v15) rfl (by kernel_rfl) (by kernel_rfl) (by kernel_rfl) (fun _ _ _ h => h) (Or.inl ⟨by rfl, ?hy15⟩) hHeld ?rest15
                case hy15 => (intro w hSw; (try dsimp only at hSw); (try go_split_ands); go_simp; first | done | with_reducible rfl)
                (try simp only [List.getElem_toArray]); (try simp only [List.getElem_cons_succ]); (try simp only [List.getElem_cons_zero]); (try simp only [Act.put]); (try simp only [List.setIfInBounds_toArray]); (try simp only [List.set_cons_succ]); (try simp only [List.set_cons_zero])
                refine wpAnyH_take (i := 16) (v := ?v16) rfl (by kernel_rfl) (by kernel_rfl) (by kernel_rfl) (fun _ _ _ h => h) (Or.inl ⟨by rfl, ?hy16⟩) hHeld ?rest16
                case hy16 => (intro w hSw; (try dsimp only at hSw); (try go_split_ands); go_simp; first | done | with_reducible rfl)
                (try simp only [List.getElem_toArray]); (try simp only [List.getElem_cons_succ]); (try simp only [List.getElem_cons_zero]); (try simp only [Act.put]); (try simp only [List.setIfInBounds_toArray]); (try simp only [List.set_cons_succ]); (try simp only [List.set_cons_zero])
                refine wpAnyH_done (by kernel_rfl) ?_ _
                have HD10 : Hid (∀ (j : Nat) (d : DescL), j < k + 1 → t.ds[j]? = some d → descOk t.fs j d) := Lib.hid (fun j d hj hd => by rcases Nat.lt_or_ge j k with h | h; exact HD.out j d h hd; have hjk : j = k := (by omega); rw [hjk] at hd ⊢; rw [HYK.out] at hd; injection hd with hd; subst hd; exact ⟨by rw [HU.out, HC.out], fun _ => HE.out⟩)
                go_wp2_with fail
                go_roundw
                case rel => exact ⟨k + 1, by go_num, hlt, Lib.hid (S12.out.leave (by simp)), HV12, HD10⟩
                case measure => simp [RowKit.intOf]; omega
              · have e2 : decide (y = zeroD) = false := decide_eq_false e
                have HN := Lib.hid (right_no (t := t) fun hRt => e ((hRt.2 k y HYK.out).2 (by rw [← HC.out]; have := HZ0.out; have := HU.out; omega)))
                have heq : ∀ w, (Op.equalIn 10000 76 (.agg #[.int .i64 y.ino, .int .i64 y.pos, .bool y.rd, .bool y.wr, .int .i64 y.refs, .int .i64 y.lock]) (.agg #[.int .i64 0, .int .i64 0, .bool false, .bool false, .int .i64 0, .int .i64 0])).run Tryz.prog w = .ok (decide (y = zeroD)) w := fun w => eqDescP y zeroD w
                clear e
                have HV12 := Lib.hid (show W11.drew.ownsRow w.heap.size 3 1 (.slice (some ⟨g, 0, none⟩) t.ds.length t.ds.length) t.ds.length (intC (cP t.ds.length t.fs [])) from ownsRow_below HV.out (Below.refl _ _).drew (Nat.le_refl _))
                have h_x := (S11.out.at 1 rfl)
                refine wp_region_held_drew (S := fun W => W.heap[wr.heap.size]? = some (.cells #[.int .i64 y.ino, .int .i64 y.pos, .bool y.rd, .bool y.wr, .int .i64 y.refs, .int .i64 y.lock] 76 (0, 0)) ∧ W.cell? ⟨wr.heap.size, 4, none⟩ = some (.int .i64 y.refs) ∧ W.cell? ⟨g, k, none⟩ = some (.int .i64 (c : Int)) ∧ True) (by kernel_rfl) ⟨(S11.out.at 1 rfl), (cells6 (S11.out.at 1 rfl)).2.2.2.2.1, cc, trivial⟩ (fun hHeld => ?_)
                clear h_x
                have S12 := Lib.hid (S11.out.call (Below.refl W11.heap.size W11).drew)
                generalize W11.drew = W12 at *
                refine wpAnyH_take (i := 0) (v := ?v17) rfl (by kernel_rfl) (by kernel_rfl) (by kernel_rfl) (fun _ _ _ h => h) (Or.inl ⟨by rfl, ?hy17⟩) hHeld ?rest17
                case hy17 => (intro w hSw; (try dsimp only at hSw); (try go_split_ands); go_simp; first | done | with_reducible rfl)
                (try simp only [List.getElem_toArray]); (try simp only [List.getElem_cons_succ]); (try simp only [List.getElem_cons_zero]); (try simp only [Act.put]); (try simp only [List.setIfInBounds_toArray]); (try simp only [List.set_cons_succ]); (try simp only [List.set_cons_zero])
                refine wpAnyH_take (i := 1) (v := ?v18) rfl (by kernel_rfl) (by kernel_rfl) (by kernel_rfl) (fun _ _ _ h => h) (Or.inl ⟨by rfl, ?hy18⟩) hHeld ?rest18
                case hy18 => (intro w hSw; (try dsimp only at hSw); (try go_split_ands); go_simp; first | done | with_reducible rfl)
                (try simp only [List.getElem_toArray]); (try simp only [List.getElem_cons_succ]); (try simp only [List.getElem_cons_zero]); (try simp only [Act.put]); (try simp only [List.setIfInBounds_toArray]); (try simp only [List.set_cons_succ]); (try simp only [List.set_cons_zero])
                refine wpAnyH_take (i := 2) (v := ?v19) rfl (by kernel_rfl) (by kernel_rfl) (by kernel_rfl) (fun _ _ _ h => h) (Or.inl ⟨by rfl, ?hy19⟩) hHeld ?rest19
                case hy19 => (intro w hSw; (try dsimp only at hSw); (try go_split_ands); go_simp; first | done | with_reducible rfl)
                (try simp only [List.getElem_toArray]); (try simp only [List.getElem_cons_succ]); (try simp only [List.getElem_cons_zero]); (try simp only [Act.put]); (try simp only [List.setIfInBounds_toArray]); (try simp only [List.set_cons_succ]); (try simp only [List.set_cons_zero])
                refine wpAnyH_take (i := 3) (v := ?v20) rfl (by kernel_rfl) (by kernel_rfl) (by kernel_rfl) (fun _ _ _ h => h) (Or.inl ⟨by rfl, ?hy20⟩) hHeld ?rest20
                case hy20 => (intro w hSw; (try dsimp only at hSw); (try go_split_ands); go_simp; first | done | with_reducible rfl)
                (try simp only [List.getElem_toArray]); (try simp only [List.getElem_cons_succ]); (try simp only [List.getElem_cons_zero]); (try simp only [Act.put]); (try simp only [List.setIfInBounds_toArray]); (try simp only [List.set_cons_succ]); (try simp only [List.set_cons_zero])
                refine wpAnyH_take (i := 4) (v := ?v21) rfl (by kernel_rfl) (by kernel_rfl) (by kernel_rfl) (fun _ _ _ h => h) (Or.inl ⟨by rfl, ?hy21⟩) hHeld ?rest21
                case hy21 => (intro w hSw; (try dsimp only at hSw); (try go_split_ands); go_simp; first | done | with_reducible rfl)
                (try simp only [List.getElem_toArray]); (try simp only [List.getElem_cons_succ]); (try simp only [List.getElem_cons_zero]); (try simp only [Act.put]); (try simp only [List.setIfInBounds_toArray]); (try simp only [List.set_cons_succ]); (try simp only [List.set_cons_zero])
                refine wpAnyH_take (i := 5) (v := ?v22) rfl (by kernel_rfl) (by kernel_rfl) (by kernel_rfl) (fun _ _ _ h => h) (Or.inl ⟨by rfl, ?hy22⟩) hHeld ?rest22
                case hy22 => (intro w hSw; (try dsimp only at hSw); (try go_split_ands); go_simp; first | done | with_reducible rfl)
                (try simp only [List.getElem_toArray]); (try simp only [List.getElem_cons_succ]); (try simp only [List.getElem_cons_zero]); (try simp only [Act.put]); (try simp only [List.setIfInBounds_toArray]); (try simp only [List.set_cons_succ]); (try simp only [List.set_cons_zero])
                refine wpAnyH_take (i := 6) (v := ?v23) rfl (by kernel_rfl) (by kernel_rfl) (by kernel_rfl) (fun _ _ _ h => h) (Or.inl ⟨by rfl, ?hy23⟩) hHeld ?rest23
                case hy23 => (intro w hSw; (try dsimp only at hSw); (try go_split_ands); go_simp; first | done | with_reducible rfl)
                (try simp only [List.getElem_toArray]); (try simp only [List.getElem_cons_succ]); (try simp only [List.getElem_cons_zero]); (try simp only [Act.put]); (try simp only [List.setIfInBounds_toArray]); (try simp only [List.set_cons_succ]); (try simp only [List.set_cons_zero])
                refine wpAnyH_take (i := 7) (v := ?v24) rfl (by kernel_rfl) (by kernel_rfl) (by kernel_rfl) (fun _ _ _ h => h) (Or.inl ⟨by rfl, ?hy24⟩) hHeld ?rest24
                case hy24 => (intro w hSw; (try dsimp only at hSw); (try go_split_ands); go_simp; first | done | with_reducible rfl)
                (try simp only [List.getElem_toArray]); (try simp only [List.getElem_cons_succ]); (try simp only [List.getElem_cons_zero]); (try simp only [Act.put]); (try simp only [List.setIfInBounds_toArray]); (try simp only [List.set_cons_succ]); (try simp only [List.set_cons_zero])
                refine wpAnyH_take (i := 8) (v := ?v25) rfl (by kernel_rfl) (by kernel_rfl) (by kernel_rfl) (fun _ _ _ h => h) (Or.inl ⟨by rfl, ?hy25⟩) hHeld ?rest25
                case hy25 => (intro w hSw; (try dsimp only at hSw); (try go_split_ands); go_simp; first | done | with_reducible rfl)
                (try simp only [List.getElem_toArray]); (try simp only [List.getElem_cons_succ]); (try simp only [List.getElem_cons_zero]); (try simp only [Act.put]); (try simp only [List.setIfInBounds_toArray]); (try simp only [List.set_cons_succ]); (try simp only [List.set_cons_zero])
                refine wpAnyH_take (i := 9) (v := ?v26) rfl (by kernel_rfl) (by kernel_rfl) (by kernel_rfl) (fun _ _ _ h => h) (Or.inl ⟨by rfl, ?hy26⟩) hHeld ?rest26
                case hy26 => (intro w hSw; (try dsimp only at hSw); (try go_split_ands); go_simp; first | done | with_reducible rfl)
                (try simp only [List.getElem_toArray]); (try simp only [List.getElem_cons_succ]); (try simp only [List.getElem_cons_zero]); (try simp only [Act.put]); (try simp only [List.setIfInBounds_toArray]); (try simp only [List.set_cons_succ]); (try simp only [List.set_cons_zero])
                refine wpAnyH_take (i := 10) (v := ?v27) rfl (by kernel_rfl) (by kernel_rfl) (by kernel_rfl) (fun _ _ _ h => h) (Or.inl ⟨by rfl, ?hy27⟩) hHeld ?rest27
                case hy27 => (intro w hSw; (try dsimp only at hSw); (try go_split_ands); go_simp; first | done | with_reducible rfl)
                (try simp only [List.getElem_toArray]); (try simp only [List.getElem_cons_succ]); (try simp only [List.getElem_cons_zero]); (try simp only [Act.put]); (try simp only [List.setIfInBounds_toArray]); (try simp only [List.set_cons_succ]); (try simp only [List.set_cons_zero])
                refine wpAnyH_take (i := 11) (v := ?v28) rfl (by kernel_rfl) (by kernel_rfl) (by kernel_rfl) (fun _ _ _ h => h) (Or.inl ⟨by rfl, ?hy28⟩) hHeld ?rest28
                case hy28 => (intro w hSw; (try dsimp only at hSw); (try go_split_ands); go_simp; first | done | with_reducible rfl)
                (try simp only [List.getElem_toArray]); (try simp only [List.getElem_cons_succ]); (try simp only [List.getElem_cons_zero]); (try simp only [Act.put]); (try simp only [List.setIfInBounds_toArray]); (try simp only [List.set_cons_succ]); (try simp only [List.set_cons_zero])
                refine wpAnyH_take (i := 12) rfl (by kernel_rfl) (by kernel_rfl) (by kernel_rfl) (fun _ _ _ h => h) (yieldsIf_load_row (by rfl) 76 _ rfl _ rfl 76 _ (0, 0) _ (fun _ h => h.1) Tryz.underlying76 rfl (by kernel_rfl)) hHeld ?_
                (try simp only [List.getElem_toArray]); (try simp only [List.getElem_cons_succ]); (try simp only [List.getElem_cons_zero]); (try simp only [Act.put]); (try simp only [List.setIfInBounds_toArray]); (try simp only [List.set_cons_succ]); (try simp only [List.set_cons_zero])
                refine wpAnyH_take (i := 13) (v := ?v29) rfl (by kernel_rfl) (by kernel_rfl) (by kernel_rfl) (fun _ _ _ h => h) (Or.inl ⟨by rfl, ?hy29⟩) hHeld ?rest29
                case hy29 => (intro w hSw; (try dsimp only at hSw); (try go_split_ands); go_simp; first | done | with_reducible rfl)
                (try simp only [List.getElem_toArray]); (try simp only [List.getElem_cons_succ]); (try simp only [List.getElem_cons_zero]); (try simp only [Act.put]); (try simp only [List.setIfInBounds_toArray]); (try simp only [List.set_cons_succ]); (try simp only [List.set_cons_zero])
                refine wpAnyH_take (i := 14) (v := ?v30) rfl (by kernel_rfl) (by kernel_rfl) (by kernel_rfl) (fun _ _ _ h => h) (Or.inl ⟨by rfl, ?hy30⟩) hHeld ?rest30
                case hy30 => (intro w hSw; (try dsimp only at hSw); (try go_split_ands); go_simp; first | done | with_reducible rfl)
                (try simp only [List.getElem_toArray]); (try simp only [List.getElem_cons_succ]); (try simp only [List.getElem_cons_zero]); (try simp only [Act.put]); (try simp only [List.setIfInBounds_toArray]); (try simp only [List.set_cons_succ]); (try simp only [List.set_cons_zero])
                refine wpAnyH_take (i := 15) (v := ?v31) rfl (by kernel_rfl) (by kernel_rfl) (by kernel_rfl) (fun _ _ _ h => h) (Or.inl ⟨by rfl, ?hy31⟩) hHeld ?rest31
                case hy31 => (intro w hSw; (try dsimp only at hSw); (try go_split_ands); go_simp; first | done | with_reducible rfl)
                (try simp only [List.getElem_toArray]); (try simp only [List.getElem_cons_succ]); (try simp only [List.getElem_cons_zero]); (try simp only [Act.put]); (try simp only [List.setIfInBounds_toArray]); (try simp only [List.set_cons_succ]); (try simp only [List.set_cons_zero])
                refine wpAnyH_take (i := 16) (v := ?v32) rfl (by kernel_rfl) (by kernel_rfl) (by kernel_rfl) (fun _ _ _ h => h) (Or.inl ⟨by rfl, ?hy32⟩) hHeld ?rest32
                case hy32 => (intro w hSw; (try dsimp only at hSw); (try go_split_ands); go_simp; first | done | with_reducible rfl)
                (try simp only [List.getElem_toArray]); (try simp only [List.getElem_cons_succ]); (try simp only [List.getElem_cons_zero]); (try simp only [Act.put]); (try simp only [List.setIfInBounds_toArray]); (try simp only [List.set_cons_succ]); (try simp only [List.set_cons_zero])
                refine wpAnyH_done (by kernel_rfl) ?_ _
                go_wp2_with fail
                go_ret
                exact ⟨by rw [HN.out]; rfl, S12.out.bel⟩
            · have z1 : (y.refs == 0) = false := by simpa using z
              have z2 : decide (y.refs = 0) = false := decide_eq_false z
              have z3 : (y.refs != 0) = true := by simpa using z
              have HZ0 := Lib.hid z
              clear z
              have HV12 := Lib.hid (show W11.drew.ownsRow w.heap.size 3 1 (.slice (some ⟨g, 0, none⟩) t.ds.length t.ds.length) t.ds.length (intC (cP t.ds.length t.fs [])) from ownsRow_below HV.out (Below.refl _ _).drew (Nat.le_refl _))
              have h_x := (S11.out.at 1 rfl)
              refine wp_region_held_drew (S := fun W => W.heap[wr.heap.size]? = some (.cells #[.int .i64 y.ino, .int .i64 y.pos, .bool y.rd, .bool y.wr, .int .i64 y.refs, .int .i64 y.lock] 76 (0, 0)) ∧ W.cell? ⟨wr.heap.size, 4, none⟩ = some (.int .i64 y.refs) ∧ W.cell? ⟨g, k, none⟩ = some (.int .i64 (c : Int)) ∧ True) (by kernel_rfl) ⟨(S11.out.at 1 rfl), (cells6 (S11.out.at 1 rfl)).2.2.2.2.1, cc, trivial⟩ (fun hHeld => ?_)
              clear h_x
              have S12 := Lib.hid (S11.out.call (Below.refl W11.heap.size W11).drew)
              generalize W11.drew = W12 at *
              refine wpAnyH_take (i := 0) (v := ?v33) rfl (by kernel_rfl) (by kernel_rfl) (by kernel_rfl) (fun _ _ _ h => h) (Or.inl ⟨by rfl, ?hy33⟩) hHeld ?rest33
              case hy33 => (intro w hSw; (try dsimp only at hSw); (try go_split_ands); go_simp; first | done | with_reducible rfl)
              (try simp only [List.getElem_toArray]); (try simp only [List.getElem_cons_succ]); (try simp only [List.getElem_cons_zero]); (try simp only [Act.put]); (try simp only [List.setIfInBounds_toArray]); (try simp only [List.set_cons_succ]); (try simp only [List.set_cons_zero])
              refine wpAnyH_take (i := 1) (v := ?v34) rfl (by kernel_rfl) (by kernel_rfl) (by kernel_rfl) (fun _ _ _ h => h) (Or.inl ⟨by rfl, ?hy34⟩) hHeld ?rest34
              case hy34 => (intro w hSw; (try dsimp only at hSw); (try go_split_ands); go_simp; first | done | with_reducible rfl)
              (try simp only [List.getElem_toArray]); (try simp only [List.getElem_cons_succ]); (try simp only [List.getElem_cons_zero]); (try simp only [Act.put]); (try simp only [List.setIfInBounds_toArray]); (try simp only [List.set_cons_succ]); (try simp only [List.set_cons_zero])
              refine wpAnyH_take (i := 2) (v := ?v35) rfl (by kernel_rfl) (by kernel_rfl) (by kernel_rfl) (fun _ _ _ h => h) (Or.inl ⟨by rfl, ?hy35⟩) hHeld ?rest35
              case hy35 => (intro w hSw; (try dsimp only at hSw); (try go_split_ands); go_simp; first | done | with_reducible rfl)
              (try simp only [List.getElem_toArray]); (try simp only [List.getElem_cons_succ]); (try simp only [List.getElem_cons_zero]); (try simp only [Act.put]); (try simp only [List.setIfInBounds_toArray]); (try simp only [List.set_cons_succ]); (try simp only [List.set_cons_zero])
              refine wpAnyH_take (i := 3) (v := ?v36) rfl (by kernel_rfl) (by kernel_rfl) (by kernel_rfl) (fun _ _ _ h => h) (Or.inl ⟨by rfl, ?hy36⟩) hHeld ?rest36
              case hy36 => (intro w hSw; (try dsimp only at hSw); (try go_split_ands); go_simp; first | done | with_reducible rfl)
              (try simp only [List.getElem_toArray]); (try simp only [List.getElem_cons_succ]); (try simp only [List.getElem_cons_zero]); (try simp only [Act.put]); (try simp only [List.setIfInBounds_toArray]); (try simp only [List.set_cons_succ]); (try simp only [List.set_cons_zero])
              refine wpAnyH_take (i := 4) (v := ?v37) rfl (by kernel_rfl) (by kernel_rfl) (by kernel_rfl) (fun _ _ _ h => h) (Or.inl ⟨by rfl, ?hy37⟩) hHeld ?rest37
              case hy37 => (intro w hSw; (try dsimp only at hSw); (try go_split_ands); go_simp; first | done | with_reducible rfl)
              (try simp only [List.getElem_toArray]); (try simp only [List.getElem_cons_succ]); (try simp only [List.getElem_cons_zero]); (try simp only [Act.put]); (try simp only [List.setIfInBounds_toArray]); (try simp only [List.set_cons_succ]); (try simp only [List.set_cons_zero])
              refine wpAnyH_take (i := 5) (v := ?v38) rfl (by kernel_rfl) (by kernel_rfl) (by kernel_rfl) (fun _ _ _ h => h) (Or.inl ⟨by rfl, ?hy38⟩) hHeld ?rest38
              case hy38 => (intro w hSw; (try dsimp only at hSw); (try go_split_ands); go_simp; first | done | with_reducible rfl)
              (try simp only [List.getElem_toArray]); (try simp only [List.getElem_cons_succ]); (try simp only [List.getElem_cons_zero]); (try simp only [Act.put]); (try simp only [List.setIfInBounds_toArray]); (try simp only [List.set_cons_succ]); (try simp only [List.set_cons_zero])
              refine wpAnyH_take (i := 6) (v := ?v39) rfl (by kernel_rfl) (by kernel_rfl) (by kernel_rfl) (fun _ _ _ h => h) (Or.inl ⟨by rfl, ?hy39⟩) hHeld ?rest39
              case hy39 => (intro w hSw; (try dsimp only at hSw); (try go_split_ands); go_simp; first | done | with_reducible rfl)
              (try simp only [List.getElem_toArray]); (try simp only [List.getElem_cons_succ]); (try simp only [List.getElem_cons_zero]); (try simp only [Act.put]); (try simp only [List.setIfInBounds_toArray]); (try simp only [List.set_cons_succ]); (try simp only [List.set_cons_zero])
              refine wpAnyH_take (i := 7) (v := ?v40) rfl (by kernel_rfl) (by kernel_rfl) (by kernel_rfl) (fun _ _ _ h => h) (Or.inl ⟨by rfl, ?hy40⟩) hHeld ?rest40
              case hy40 => (intro w hSw; (try dsimp only at hSw); (try go_split_ands); go_simp; first | done | with_reducible rfl)
              (try simp only [List.getElem_toArray]); (try simp only [List.getElem_cons_succ]); (try simp only [List.getElem_cons_zero]); (try simp only [Act.put]); (try simp only [List.setIfInBounds_toArray]); (try simp only [List.set_cons_succ]); (try simp only [List.set_cons_zero])
              refine wpAnyH_take (i := 8) (v := ?v41) rfl (by kernel_rfl) (by kernel_rfl) (by kernel_rfl) (fun _ _ _ h => h) (Or.inl ⟨by rfl, ?hy41⟩) hHeld ?rest41
              case hy41 => (intro w hSw; (try dsimp only at hSw); (try go_split_ands); go_simp; first | done | with_reducible rfl)
              (try simp only [List.getElem_toArray]); (try simp only [List.getElem_cons_succ]); (try simp only [List.getElem_cons_zero]); (try simp only [Act.put]); (try simp only [List.setIfInBounds_toArray]); (try simp only [List.set_cons_succ]); (try simp only [List.set_cons_zero])
              refine wpAnyH_take (i := 9) (v := ?v42) rfl (by kernel_rfl) (by kernel_rfl) (by kernel_rfl) (fun _ _ _ h => h) (Or.inl ⟨by rfl, ?hy42⟩) hHeld ?rest42
              case hy42 => (intro w hSw; (try dsimp only at hSw); (try go_split_ands); go_simp; first | done | with_reducible rfl)
              (try simp only [List.getElem_toArray]); (try simp only [List.getElem_cons_succ]); (try simp only [List.getElem_cons_zero]); (try simp only [Act.put]); (try simp only [List.setIfInBounds_toArray]); (try simp only [List.set_cons_succ]); (try simp only [List.set_cons_zero])
              refine wpAnyH_take (i := 10) (v := ?v43) rfl (by kernel_rfl) (by kernel_rfl) (by kernel_rfl) (fun _ _ _ h => h) (Or.inl ⟨by rfl, ?hy43⟩) hHeld ?rest43
              case hy43 => (intro w hSw; (try dsimp only at hSw); (try go_split_ands); go_simp; first | done | with_reducible rfl)
              (try simp only [List.getElem_toArray]); (try simp only [List.getElem_cons_succ]); (try simp only [List.getElem_cons_zero]); (try simp only [Act.put]); (try simp only [List.setIfInBounds_toArray]); (try simp only [List.set_cons_succ]); (try simp only [List.set_cons_zero])
              refine wpAnyH_take (i := 11) (v := ?v44) rfl (by kernel_rfl) (by kernel_rfl) (by kernel_rfl) (fun _ _ _ h => h) (Or.inl ⟨by rfl, ?hy44⟩) hHeld ?rest44
              case hy44 => (intro w hSw; (try dsimp only at hSw); (try go_split_ands); go_simp; first | done | with_reducible rfl)
              (try simp only [List.getElem_toArray]); (try simp only [List.getElem_cons_succ]); (try simp only [List.getElem_cons_zero]); (try simp only [Act.put]); (try simp only [List.setIfInBounds_toArray]); (try simp only [List.set_cons_succ]); (try simp only [List.set_cons_zero])
              refine wpAnyH_take (i := 12) (v := undef) rfl (by kernel_rfl) (by kernel_rfl) (by kernel_rfl) (fun _ _ _ h => h) (Or.inr ⟨by rfl, rfl⟩) hHeld ?_
              (try simp only [List.getElem_toArray]); (try simp only [List.getElem_cons_succ]); (try simp only [List.getElem_cons_zero]); (try simp only [Act.put]); (try simp only [List.setIfInBounds_toArray]); (try simp only [List.set_cons_succ]); (try simp only [List.set_cons_zero])
              refine wpAnyH_take (i := 13) (v := undef) rfl (by kernel_rfl) (by kernel_rfl) (by kernel_rfl) (fun _ _ _ h => h) (Or.inr ⟨by rfl, rfl⟩) hHeld ?_
              (try simp only [List.getElem_toArray]); (try simp only [List.getElem_cons_succ]); (try simp only [List.getElem_cons_zero]); (try simp only [Act.put]); (try simp only [List.setIfInBounds_toArray]); (try simp only [List.set_cons_succ]); (try simp only [List.set_cons_zero])
              refine wpAnyH_take (i := 14) (v := undef) rfl (by kernel_rfl) (by kernel_rfl) (by kernel_rfl) (fun _ _ _ h => h) (Or.inr ⟨by rfl, rfl⟩) hHeld ?_
              (try simp only [List.getElem_toArray]); (try simp only [List.getElem_cons_succ]); (try simp only [List.getElem_cons_zero]); (try simp only [Act.put]); (try simp only [List.setIfInBounds_toArray]); (try simp only [List.set_cons_succ]); (try simp only [List.set_cons_zero])
              refine wpAnyH_take (i := 15) (v := ?v45) rfl (by kernel_rfl) (by kernel_rfl) (by kernel_rfl) (fun _ _ _ h => h) (Or.inl ⟨by rfl, ?hy45⟩) hHeld ?rest45
              case hy45 => (intro w hSw; (try dsimp only at hSw); (try go_split_ands); go_simp; first | done | with_reducible rfl)
              (try simp only [List.getElem_toArray]); (try simp only [List.getElem_cons_succ]); (try simp only [List.getElem_cons_zero]); (try simp only [Act.put]); (try simp only [List.setIfInBounds_toArray]); (try simp only [List.set_cons_succ]); (try simp only [List.set_cons_zero])
              refine wpAnyH_take (i := 16) (v := ?v46) rfl (by kernel_rfl) (by kernel_rfl) (by kernel_rfl) (fun _ _ _ h => h) (Or.inl ⟨by rfl, ?hy46⟩) hHeld ?rest46
              case hy46 => (intro w hSw; (try dsimp only at hSw); (try go_split_ands); go_simp; first | done | with_reducible rfl)
              (try simp only [List.getElem_toArray]); (try simp only [List.getElem_cons_succ]); (try simp only [List.getElem_cons_zero]); (try simp only [Act.put]); (try simp only [List.setIfInBounds_toArray]); (try simp only [List.set_cons_succ]); (try simp only [List.set_cons_zero])
              refine wpAnyH_done (by kernel_rfl) ?_ _
              have HD10 : Hid (∀ (j : Nat) (d : DescL), j < k + 1 → t.ds[j]? = some d → descOk t.fs j d) := Lib.hid (fun j d hj hd => by rcases Nat.lt_or_ge j k with h | h; exact HD.out j d h hd; have hjk : j = k := (by omega); rw [hjk] at hd ⊢; rw [HYK.out] at hd; injection hd with hd; subst hd; exact ⟨by rw [HU.out, HC.out], fun h => by have := HZ0.out; have := HU.out; rw [HC.out] at this; omega⟩)
              go_wp2_with fail
              go_roundw
              case rel => exact ⟨k + 1, by go_num, hlt, Lib.hid (S12.out.leave (by simp)), HV12, HD10⟩
              case measure => simp [RowKit.intOf]; omega
          · have u1 : (y.refs == (c : Int)) = false := by simpa using u
            have u2 : decide (y.refs = (c : Int)) = false := decide_eq_false u
            have u3 : (y.refs != (c : Int)) = true := by simpa using u
            have HN := Lib.hid (right_no (t := t) fun hRt => u (by rw [HC.out]; exact (hRt.2 k y HYK.out).1))
            clear u
            have HV12 := Lib.hid (show W11.drew.ownsRow w.heap.size 3 1 (.slice (some ⟨g, 0, none⟩) t.ds.length t.ds.length) t.ds.length (intC (cP t.ds.length t.fs [])) from ownsRow_below HV.out (Below.refl _ _).drew (Nat.le_refl _))
            have h_x := (S11.out.at 1 rfl)
            refine wp_region_held_drew (S := fun W => W.heap[wr.heap.size]? = some (.cells #[.int .i64 y.ino, .int .i64 y.pos, .bool y.rd, .bool y.wr, .int .i64 y.refs, .int .i64 y.lock] 76 (0, 0)) ∧ W.cell? ⟨wr.heap.size, 4, none⟩ = some (.int .i64 y.refs) ∧ W.cell? ⟨g, k, none⟩ = some (.int .i64 (c : Int)) ∧ True) (by kernel_rfl) ⟨(S11.out.at 1 rfl), (cells6 (S11.out.at 1 rfl)).2.2.2.2.1, cc, trivial⟩ (fun hHeld => ?_)
            clear h_x
            have S12 := Lib.hid (S11.out.call (Below.refl W11.heap.size W11).drew)
            generalize W11.drew = W12 at *
            refine wpAnyH_take (i := 0) (v := ?v47) rfl (by kernel_rfl) (by kernel_rfl) (by kernel_rfl) (fun _ _ _ h => h) (Or.inl ⟨by rfl, ?hy47⟩) hHeld ?rest47
            case hy47 => (intro w hSw; (try dsimp only at hSw); (try go_split_ands); go_simp; first | done | with_reducible rfl)
            (try simp only [List.getElem_toArray]); (try simp only [List.getElem_cons_succ]); (try simp only [List.getElem_cons_zero]); (try simp only [Act.put]); (try simp only [List.setIfInBounds_toArray]); (try simp only [List.set_cons_succ]); (try simp only [List.set_cons_zero])
            refine wpAnyH_take (i := 1) (v := ?v48) rfl (by kernel_rfl) (by kernel_rfl) (by kernel_rfl) (fun _ _ _ h => h) (Or.inl ⟨by rfl, ?hy48⟩) hHeld ?rest48
            case hy48 => (intro w hSw; (try dsimp only at hSw); (try go_split_ands); go_simp; first | done | with_reducible rfl)
            (try simp only [List.getElem_toArray]); (try simp only [List.getElem_cons_succ]); (try simp only [List.getElem_cons_zero]); (try simp only [Act.put]); (try simp only [List.setIfInBounds_toArray]); (try simp only [List.set_cons_succ]); (try simp only [List.set_cons_zero])
            refine wpAnyH_take (i := 2) (v := ?v49) rfl (by kernel_rfl) (by kernel_rfl) (by kernel_rfl) (fun _ _ _ h => h) (Or.inl ⟨by rfl, ?hy49⟩) hHeld ?rest49
            case hy49 => (intro w hSw; (try dsimp only at hSw); (try go_split_ands); go_simp; first | done | with_reducible rfl)
            (try simp only [List.getElem_toArray]); (try simp only [List.getElem_cons_succ]); (try simp only [List.getElem_cons_zero]); (try simp only [Act.put]); (try simp only [List.setIfInBounds_toArray]); (try simp only [List.set_cons_succ]); (try simp only [List.set_cons_zero])
            refine wpAnyH_take (i := 3) (v := ?v50) rfl (by kernel_rfl) (by kernel_rfl) (by kernel_rfl) (fun _ _ _ h => h) (Or.inl ⟨by rfl, ?hy50⟩) hHeld ?rest50
            case hy50 => (intro w hSw; (try dsimp only at hSw); (try go_split_ands); go_simp; first | done | with_reducible rfl)
            (try simp only [List.getElem_toArray]); (try simp only [List.getElem_cons_succ]); (try simp only [List.getElem_cons_zero]); (try simp only [Act.put]); (try simp only [List.setIfInBounds_toArray]); (try simp only [List.set_cons_succ]); (try simp only [List.set_cons_zero])
            refine wpAnyH_take (i := 4) (v := ?v51) rfl (by kernel_rfl) (by kernel_rfl) (by kernel_rfl) (fun _ _ _ h => h) (Or.inl ⟨by rfl, ?hy51⟩) hHeld ?rest51
            case hy51 => (intro w hSw; (try dsimp only at hSw); (try go_split_ands); go_simp; first | done | with_reducible rfl)
            (try simp only [List.getElem_toArray]); (try simp only [List.getElem_cons_succ]); (try simp only [List.getElem_cons_zero]); (try simp only [Act.put]); (try simp only [List.setIfInBounds_toArray]); (try simp only [List.set_cons_succ]); (try simp only [List.set_cons_zero])
            refine wpAnyH_take (i := 5) (v := ?v52) rfl (by kernel_rfl) (by kernel_rfl) (by kernel_rfl) (fun _ _ _ h => h) (Or.inl ⟨by rfl, ?hy52⟩) hHeld ?rest52
            case hy52 => (intro w hSw; (try dsimp only at hSw); (try go_split_ands); go_simp; first | done | with_reducible rfl)
            (try simp only [List.getElem_toArray]); (try simp only [List.getElem_cons_succ]); (try simp only [List.getElem_cons_zero]); (try simp only [Act.put]); (try simp only [List.setIfInBounds_toArray]); (try simp only [List.set_cons_succ]); (try simp only [List.set_cons_zero])
            refine wpAnyH_take (i := 6) (v := ?v53) rfl (by kernel_rfl) (by kernel_rfl) (by kernel_rfl) (fun _ _ _ h => h) (Or.inl ⟨by rfl, ?hy53⟩) hHeld ?rest53
            case hy53 => (intro w hSw; (try dsimp only at hSw); (try go_split_ands); go_simp; first | done | with_reducible rfl)
            (try simp only [List.getElem_toArray]); (try simp only [List.getElem_cons_succ]); (try simp only [List.getElem_cons_zero]); (try simp only [Act.put]); (try simp only [List.setIfInBounds_toArray]); (try simp only [List.set_cons_succ]); (try simp only [List.set_cons_zero])
            refine wpAnyH_take (i := 7) (v := ?v54) rfl (by kernel_rfl) (by kernel_rfl) (by kernel_rfl) (fun _ _ _ h => h) (Or.inl ⟨by rfl, ?hy54⟩) hHeld ?rest54
            case hy54 => (intro w hSw; (try dsimp only at hSw); (try go_split_ands); go_simp; first | done | with_reducible rfl)
            (try simp only [List.getElem_toArray]); (try simp only [List.getElem_cons_succ]); (try simp only [List.getElem_cons_zero]); (try simp only [Act.put]); (try simp only [List.setIfInBounds_toArray]); (try simp only [List.set_cons_succ]); (try simp only [List.set_cons_zero])
            refine wpAnyH_take (i := 8) (v := undef) rfl (by kernel_rfl) (by kernel_rfl) (by kernel_rfl) (fun _ _ _ h => h) (Or.inr ⟨by rfl, rfl⟩) hHeld ?_
            (try simp only [List.getElem_toArray]); (try simp only [List.getElem_cons_succ]); (try simp only [List.getElem_cons_zero]); (try simp only [Act.put]); (try simp only [List.setIfInBounds_toArray]); (try simp only [List.set_cons_succ]); (try simp only [List.set_cons_zero])
            refine wpAnyH_take (i := 9) (v := undef) rfl (by kernel_rfl) (by kernel_rfl) (by kernel_rfl) (fun _ _ _ h => h) (Or.inr ⟨by rfl, rfl⟩) hHeld ?_
            (try simp only [List.getElem_toArray]); (try simp only [List.getElem_cons_succ]); (try simp only [List.getElem_cons_zero]); (try simp only [Act.put]); (try simp only [List.setIfInBounds_toArray]); (try simp only [List.set_cons_succ]); (try simp only [List.set_cons_zero])
            refine wpAnyH_take (i := 10) (v := undef) rfl (by kernel_rfl) (by kernel_rfl) (by kernel_rfl) (fun _ _ _ h => h) (Or.inr ⟨by rfl, rfl⟩) hHeld ?_
            (try simp only [List.getElem_toArray]); (try simp only [List.getElem_cons_succ]); (try simp only [List.getElem_cons_zero]); (try simp only [Act.put]); (try simp only [List.setIfInBounds_toArray]); (try simp only [List.set_cons_succ]); (try simp only [List.set_cons_zero])
            refine wpAnyH_take (i := 11) (v := undef) rfl (by kernel_rfl) (by kernel_rfl) (by kernel_rfl) (fun _ _ _ h => h) (Or.inr ⟨by rfl, rfl⟩) hHeld ?_
            (try simp only [List.getElem_toArray]); (try simp only [List.getElem_cons_succ]); (try simp only [List.getElem_cons_zero]); (try simp only [Act.put]); (try simp only [List.setIfInBounds_toArray]); (try simp only [List.set_cons_succ]); (try simp only [List.set_cons_zero])
            refine wpAnyH_take (i := 12) (v := undef) rfl (by kernel_rfl) (by kernel_rfl) (by kernel_rfl) (fun _ _ _ h => h) (Or.inr ⟨by rfl, rfl⟩) hHeld ?_
            (try simp only [List.getElem_toArray]); (try simp only [List.getElem_cons_succ]); (try simp only [List.getElem_cons_zero]); (try simp only [Act.put]); (try simp only [List.setIfInBounds_toArray]); (try simp only [List.set_cons_succ]); (try simp only [List.set_cons_zero])
            refine wpAnyH_take (i := 13) (v := undef) rfl (by kernel_rfl) (by kernel_rfl) (by kernel_rfl) (fun _ _ _ h => h) (Or.inr ⟨by rfl, rfl⟩) hHeld ?_
            (try simp only [List.getElem_toArray]); (try simp only [List.getElem_cons_succ]); (try simp only [List.getElem_cons_zero]); (try simp only [Act.put]); (try simp only [List.setIfInBounds_toArray]); (try simp only [List.set_cons_succ]); (try simp only [List.set_cons_zero])
            refine wpAnyH_take (i := 14) (v := undef) rfl (by kernel_rfl) (by kernel_rfl) (by kernel_rfl) (fun _ _ _ h => h) (Or.inr ⟨by rfl, rfl⟩) hHeld ?_
            (try simp only [List.getElem_toArray]); (try simp only [List.getElem_cons_succ]); (try simp only [List.getElem_cons_zero]); (try simp only [Act.put]); (try simp only [List.setIfInBounds_toArray]); (try simp only [List.set_cons_succ]); (try simp only [List.set_cons_zero])
            refine wpAnyH_take (i := 15) (v := undef) rfl (by kernel_rfl) (by kernel_rfl) (by kernel_rfl) (fun _ _ _ h => h) (Or.inr ⟨by rfl, rfl⟩) hHeld ?_
            (try simp only [List.getElem_toArray]); (try simp only [List.getElem_cons_succ]); (try simp only [List.getElem_cons_zero]); (try simp only [Act.put]); (try simp only [List.setIfInBounds_toArray]); (try simp only [List.set_cons_succ]); (try simp only [List.set_cons_zero])
            refine wpAnyH_take (i := 16) (v := ?v55) rfl (by kernel_rfl) (by kernel_rfl) (by kernel_rfl) (fun _ _ _ h => h) (Or.inl ⟨by rfl, ?hy55⟩) hHeld ?rest55
            case hy55 => (intro w hSw; (try dsimp only at hSw); (try go_split_ands); go_simp; first | done | with_reducible rfl)
            (try simp only [List.getElem_toArray]); (try simp only [List.getElem_cons_succ]); (try simp only [List.getElem_cons_zero]); (try simp only [Act.put]); (try simp only [List.setIfInBounds_toArray]); (try simp only [List.set_cons_succ]); (try simp only [List.set_cons_zero])
            refine wpAnyH_done (by kernel_rfl) ?_ _
            go_wp2_with fail
            go_ret
            exact ⟨by rw [HN.out]; rfl, S12.out.bel⟩
        · have iL3 : decide (k < t.ds.length) = false := decide_eq_false (by omega)
          have iM3 : decide ((k : Int) < (t.ds.length : Int)) = false := decide_eq_false (by omega)
          have HY := Lib.hid (right_B (t := t).2 ⟨HRn.out, fun j d hd => HD.out j d (by have := (List.getElem?_eq_some_iff.1 hd).1; omega) hd⟩)
          clear hlt
          go_wp2_with fail
          go_ret
          exact ⟨by rw [HY.out]; rfl, S9.out.bel⟩
end Go.Proofs.YtinoogmaikhpjaaGreatDoor
