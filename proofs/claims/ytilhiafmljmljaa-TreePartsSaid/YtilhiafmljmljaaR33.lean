import Derived.Test.YtilhiafmljmljaaR32
import Derived.Test.YtilhiafmljmljaaR22
namespace Go.Proofs.Ytilhiafmljmljaa
open Go.RowKit Go.Shelf
attribute [local go_sem ↓] Go.wp_at_zero Go.wp_at_succ
theorem cells4L {W : World} {b : Nat} {u0 u1 u2 u3 : Value} {t : TypeId} {f : Nat × Nat} (h : W.heap[b]? = some (.cells #[u0, u1, u2, u3] t f)) :
    W.cell? ⟨b, 0, none⟩ = some u0 ∧ W.cell? ⟨b, 1, none⟩ = some u1 ∧ W.cell? ⟨b, 2, none⟩ = some u2 ∧ W.cell? ⟨b, 3, none⟩ = some u3 := by
  refine ⟨?_, ?_, ?_, ?_⟩ <;> (rw [Lib.cell_of_heap h]; rfl)
set_option maxRecDepth 100000 in
set_option maxHeartbeats 4000000 in
theorem treeParts_w (ms : List NodeM) (most room : Int) (i : Int) (v : Value) (w : World) (hv : RdM w.heap.size v ms w) (hfit : FitD (pl ms)) :
    Calls Try.prog 6 #[.agg #[v, .int .i64 most, .int .i64 room], .int .i64 i] w fun e w' => e = .returned (.bool true) ∧ Below w.heap.size w w' := by
  have HQ := Lib.hid fun W (hb : Below w.heap.size w W) => right_q v ms most room W (rdm_keep hv hb) hfit
  have HG := Lib.hid (show GivesN (pl ms) v w from ⟨ms, rfl, hv⟩)
  have HFit := Lib.hid hfit
  obtain ⟨ao, cap, rfl, _, _⟩ := rdm_form hv
  have hml : ms.length = (pl ms).length := (pl_len ms).symm
  rw [hml] at HQ HG ⊢
  clear hv hfit hml
  generalize pl ms = l at *
  go_enter Try.func6, Try.ntmps6
  go_upto_region 1 with (fail)
  refine code_fresh1 ?_
  intro W1 hb hA hs
  have BD := Lib.hid (hA)
  replace HG := Lib.hid (HG.out.keep hb)
  have HB := Lib.hid hb
  clear hb hA hs
  have hA := BD.out
  obtain ⟨d0, d1, d2⟩ := cells3 hA
  go_wp2_with fail
  clear d0 d1 d2 hA
  refine (HQ.out _ HB.out).mono ?_
  rintro e V1 ⟨rfl, hb⟩
  replace BD := Lib.hid ((hb.block _ (lt_some BD.out)).trans BD.out)
  replace HG := Lib.hid (HG.out.keep hb)
  replace HB := Lib.hid (HB.out.trans (hb.mono HB.out.size))
  clear hb
  clear HQ
  cases hq : rightQ l most room with
  | false =>
    clear hq
    go_wp2_with fail
    refine (shown_c V1).mono ?_
    rintro e Z ⟨rfl, hb⟩
    go_wp2_with fail
    go_ret
    exact ⟨rfl, ret_tr HB.out hb⟩
  | true =>
    have HD := Lib.hid (tree_d hq HFit.out)
    clear hq HFit
    go_wp2_with fail
    refine (shown_c V1).mono ?_
    rintro e V2 ⟨rfl, hb⟩
    replace BD := Lib.hid ((hb.block _ (lt_some BD.out)).trans BD.out)
    replace HG := Lib.hid (HG.out.keep hb)
    replace HB := Lib.hid (HB.out.trans (hb.mono HB.out.size))
    clear hb
    have hA := BD.out
    obtain ⟨d0, d1, d2⟩ := cells3 hA
    go_wp2_with fail
    clear d0 d1 d2 hA
    refine (its_gn l HD.out.ok most room _ V2 HG.out).mono ?_
    rintro e V3 ⟨aox, capx, rfl, hx1, hb⟩
    replace BD := Lib.hid ((hb.block _ (lt_some BD.out)).trans BD.out)
    replace HG := Lib.hid (HG.out.keep hb)
    replace HB := Lib.hid (HB.out.trans (hb.mono HB.out.size))
    clear hb
    have X1 := Lib.hid (hx1)
    clear hx1
    go_wp2_with fail
    refine (rget_gn l HD.out.ok most room i _ V3 X1.out).mono ?_
    rintro e V4 ⟨aon, capn, rfl, hrn, hb⟩
    replace BD := Lib.hid ((hb.block _ (lt_some BD.out)).trans BD.out)
    replace HG := Lib.hid (HG.out.keep hb)
    replace HB := Lib.hid (HB.out.trans (hb.mono HB.out.size))
    clear hb
    have RN := Lib.hid (hrn)
    clear hrn X1
    have HNN := Lib.hid (show nodeL l i = getL l i from rfl)
    have hnn : (getL l i).names.length ≤ 10000 := getL_small HD.out.ok.nam i
    have hnl2 : ∀ e ∈ (getL l i).names, e.1.length ≤ 12 := getL_names HD.out.ok.nm i
    generalize getL l i = nn at *
    go_upto_region 4 with (first
      | (refine wpList_fresh1 ?_; intro V5 hb hA hs; have BD1 := Lib.hid ((hb.block _ (lt_some BD.out)).trans BD.out); have HG1 := Lib.hid (HG.out.keep hb); have HB1 := Lib.hid (HB.out.trans (hb.mono HB.out.size)); have RN1 := Lib.hid (rd_keep RN.out hb); have hbw : w.heap.size < V4.heap.size := lt_some BD.out; clear hs)
      | (refine wpList_store_row rfl 49 _ _ rfl _ rfl rfl hA rfl (by kernel_rfl) rfl ?_; intro V6 hb2 hg hs2 NB))
    (try simp only [List.getElem_toArray]); (try simp only [List.getElem_cons_succ]); (try simp only [List.getElem_cons_zero]); (try simp only [Act.put]); (try simp only [List.setIfInBounds_toArray]); (try simp only [List.set_cons_succ]); (try simp only [List.set_cons_zero])
    have hbb : Below V4.heap.size V4 V6 := hb.trans hb2
    replace hb := hbb
    clear hbb hb2 hg hs2 hA BD1 HG1 HB1 RN1 hbw
    replace BD := Lib.hid ((hb.block _ (lt_some BD.out)).trans BD.out)
    replace HG := Lib.hid (HG.out.keep hb)
    replace HB := Lib.hid (HB.out.trans (hb.mono HB.out.size))
    replace RN := Lib.hid (rd_keep RN.out hb)
    clear hb
    have NBL := Lib.hid (NB)
    clear NB
    cases hg : gotB l i with
    | false =>
      have HL := Lib.hid (list_no hg)
      have HDp := Lib.hid (depth_no hg)
      clear hg
      have hA := BD.out
      obtain ⟨d0, d1, d2⟩ := cells3 hA
      go_wp2_with fail
      clear d0 d1 d2 hA
      refine (list_g l most room i HD.out.ok _ V6 HG.out).mono ?_
      rw [HL.out]
      rintro e V37 ⟨ao1, cap1, rfl, hr, hb⟩
      clear hr
      replace BD := Lib.hid ((hb.block _ (lt_some BD.out)).trans BD.out)
      replace HG := Lib.hid (HG.out.keep hb)
      replace HB := Lib.hid (HB.out.trans (hb.mono HB.out.size))
      replace RN := Lib.hid (rd_keep RN.out hb)
      replace NBL := Lib.hid ((hb.block _ (lt_some NBL.out)).trans NBL.out)
      clear hb
      have hA := BD.out
      obtain ⟨d0, d1, d2⟩ := cells3 hA
      go_wp2_with fail
      clear d0 d1 d2 hA
      refine (depth_g l most room i HD.out.ok _ V37 HG.out).mono ?_
      rw [HDp.out]
      rintro e V38 ⟨rfl, hb⟩
      replace BD := Lib.hid ((hb.block _ (lt_some BD.out)).trans BD.out)
      replace HG := Lib.hid (HG.out.keep hb)
      replace HB := Lib.hid (HB.out.trans (hb.mono HB.out.size))
      replace RN := Lib.hid (rd_keep RN.out hb)
      replace NBL := Lib.hid ((hb.block _ (lt_some NBL.out)).trans NBL.out)
      clear hb
      go_wp2_with fail
      go_ret
      exact ⟨rfl, HB.out⟩
    | true =>
      have HTF := Lib.hid (fun (k : Nat) (hk : k < (nodeL l i).names.length) => tot_fit HD.out.ok.rig hg hk)
      have HTS := Lib.hid (fun (k : Nat) (hk : k < (nodeL l i).names.length) => tot_succ (l := l) (i := i) hk)
      have HDS := Lib.hid (fun (k : Nat) (hk : k < (nodeL l i).names.length) => deep_succ (l := l) (i := i) hk)
      have HPA := Lib.hid (fun (k : Nat) (hk : k < (nodeL l i).names.length) (j : Nat) (hj : j < (listT l (nodeL l i).names[k].2).length) => parts_at HD.out.ok.rig hg hk hj)
      have HTA := Lib.hid (tot_all HD.out.ok.rig hg)
      have HDA := Lib.hid (deep_all HD.out.ok.rig hg)
      rw [HNN.out] at HTF HTS HDS HPA HTA HDA
      clear hg
      have HW := Lib.hid (Below.refl V6.heap.size V6)
      have n7 := (cells8 NBL.out).2.2.2.2.2.2.2
      go_wp2_with fail
      clear n7
      go_loopw [7, 8, 9] (fun t0 p0 i0 wr => ∃ a : Nat, t0 = .int .i64 (totL l i a : Nat) ∧ p0 = .int .i64 (deepL l i a : Nat) ∧ i0 = .int .i64 a ∧ a ≤ nn.names.length ∧ Hid (Below V6.heap.size V6 wr)) (fun _ _ i0 _ => nn.names.length - (RowKit.intOf i0).toNat)
      case atStart => exact ⟨0, by rw [tot_zero]; rfl, by rw [deep_zero]; rfl, rfl, Nat.zero_le _, HW⟩
      case round =>
        clear HW
        obtain ⟨a, rfl, rfl, rfl, ha, HW⟩ := hrel
        have hb := HW.out
        replace BD := Lib.hid ((hb.block _ (lt_some BD.out)).trans BD.out)
        replace HG := Lib.hid (HG.out.keep hb)
        replace HB := Lib.hid (HB.out.trans (hb.mono HB.out.size))
        replace RN := Lib.hid (rd_keep RN.out hb)
        replace NBL := Lib.hid ((hb.block _ (lt_some NBL.out)).trans NBL.out)
        clear hb
        have n7 := (cells8 NBL.out).2.2.2.2.2.2.2
        by_cases hlt : a < nn.names.length
        · have iL : decide (a < nn.names.length) = true := decide_eq_true hlt
          have iL2 : decide ((a : Int) < (nn.names.length : Int)) = true := decide_eq_true (by omega)
          have a0 : (0 : Int) ≤ (a : Int) := by omega
          have a1 : (a : Int) < (nn.names.length : Int) := by omega
          have wa : IntKind.i64.wrap ((a : Int) + 1) = (a : Int) + 1 := Go.IntWalk.i64_in _ (by omega)
          obtain ⟨bN, oN, cN, eN, _, _, hbN, _, hcell⟩ := Rd.at RN.out (show 0 < nn.names.length by omega)
          injection eN with eN1 _ eN2
          subst eN1
          subst eN2
          obtain ⟨en, hen⟩ : ∃ en, en = nn.names[a] := ⟨_, rfl⟩
          have ce0 := hcell _ _ (ents_at0 nn.names a hlt)
          have ce1 := hcell _ _ (ents_at1 nn.names a hlt)
          rw [← hen] at ce0 ce1
          rw [← Nat.add_assoc] at ce1
          have HE := Lib.hid hen
          have HNM := Lib.hid (show ∀ V : World, Below wr.heap.size wr V → V.cell? ⟨bN, oN + a * 2, none⟩ = some (.string (bs en.1)) from fun V hb => (hb.cell (p := ⟨bN, oN + a * 2, none⟩) hbN).trans ce0)
          have hfit := HTF.out a hlt
          rw [← hen] at hfit
          have hmany := HD.out.ok.many i
          have hts := HTS.out a hlt
          have hds := HDS.out a hlt
          rw [← hen] at hts hds
          have HTS2 := Lib.hid hts
          have HDS2 := Lib.hid hds
          have hdu := depth_used HD.out.ok.rig en.2
          have hul := used_le l
          have hll := HD.out.ok.len
          have hnm1 : en.1.length ≤ 12 := hnl2 en (by rw [hen]; exact List.getElem_mem hlt)
          clear hen hcell hts hds
          have HP := Lib.hid (Below.refl wr.heap.size wr)
          have hA := BD.out
          obtain ⟨d0, d1, d2⟩ := cells3 hA
          go_wp2_with fail
          clear d0 d1 d2 hA iL iL2 ce0 ce1 n7
          refine (list_g l most room en.2 HD.out.ok _ wr HG.out).mono ?_
          rintro e V37 ⟨ao1, cap1, rfl, hr, hb⟩
          replace BD := Lib.hid ((hb.block _ (lt_some BD.out)).trans BD.out)
          replace HG := Lib.hid (HG.out.keep hb)
          replace HB := Lib.hid (HB.out.trans (hb.mono HB.out.size))
          replace RN := Lib.hid (rd_keep RN.out hb)
          replace NBL := Lib.hid ((hb.block _ (lt_some NBL.out)).trans NBL.out)
          replace HW := Lib.hid (HW.out.trans (hb.mono HW.out.size))
          replace HP := Lib.hid (HP.out.trans (hb.mono HP.out.size))
          clear hb
          have R1 := Lib.hid (hr)
          clear hr
          have hA := BD.out
          obtain ⟨d0, d1, d2⟩ := cells3 hA
          go_wp2_with fail
          clear d0 d1 d2 hA
          refine (list_g l most room i HD.out.ok _ V37 HG.out).mono ?_
          rintro e V38 ⟨ao2, cap2, rfl, hr, hb⟩
          replace BD := Lib.hid ((hb.block _ (lt_some BD.out)).trans BD.out)
          replace HG := Lib.hid (HG.out.keep hb)
          replace HB := Lib.hid (HB.out.trans (hb.mono HB.out.size))
          replace RN := Lib.hid (rd_keep RN.out hb)
          replace NBL := Lib.hid ((hb.block _ (lt_some NBL.out)).trans NBL.out)
          replace HW := Lib.hid (HW.out.trans (hb.mono HW.out.size))
          replace HP := Lib.hid (HP.out.trans (hb.mono HP.out.size))
          replace R1 := Lib.hid (rd_keep R1.out hb)
          clear hb
          have R2 := Lib.hid (hr)
          clear hr
          have wt : IntKind.i64.wrap (((totL l i a : Nat) : Int) + ((listT l en.2).length : Int)) = ((totL l i a : Nat) : Int) + ((listT l en.2).length : Int) := Go.IntWalk.i64_in _ (by omega)
          have q1 : decide (((listT l i).length : Int) < ((totL l i a : Nat) : Int) + ((listT l en.2).length : Int)) = false := decide_eq_false (by omega)
          have q2 : decide ((listT l i).length < totL l i a + (listT l en.2).length) = false := decide_eq_false (by omega)
          go_wp2_with fail
          clear q1 q2
          have HC := Lib.hid (Below.refl V38.heap.size V38)
          go_loopw [13] (fun j0 wr2 => ∃ b : Nat, j0 = .int .i64 b ∧ b ≤ (listT l en.2).length ∧ Hid (Below V38.heap.size V38 wr2)) (fun j0 _ => (listT l en.2).length - (RowKit.intOf j0).toNat)
          case atStart => exact ⟨0, rfl, Nat.zero_le _, HC⟩
          case round =>
            clear HC
            obtain ⟨b, rfl, hbl, HC⟩ := hrel
            have hb := HC.out
            replace BD := Lib.hid ((hb.block _ (lt_some BD.out)).trans BD.out)
            replace HG := Lib.hid (HG.out.keep hb)
            replace HB := Lib.hid (HB.out.trans (hb.mono HB.out.size))
            replace RN := Lib.hid (rd_keep RN.out hb)
            replace NBL := Lib.hid ((hb.block _ (lt_some NBL.out)).trans NBL.out)
            replace HW := Lib.hid (HW.out.trans (hb.mono HW.out.size))
            replace HP := Lib.hid (HP.out.trans (hb.mono HP.out.size))
            replace R1 := Lib.hid (rd_keep R1.out hb)
            replace R2 := Lib.hid (rd_keep R2.out hb)
            clear hb
            have n7 := (cells8 NBL.out).2.2.2.2.2.2.2
            have ce0 := HNM.out _ HP.out
            by_cases hlb : b < (listT l en.2).length
            · have jL : decide (b < (listT l en.2).length) = true := decide_eq_true hlb
              have jL2 : decide ((b : Int) < ((listT l en.2).length : Int)) = true := decide_eq_true (by omega)
              have b0 : (0 : Int) ≤ (b : Int) := by omega
              have b1 : (b : Int) < ((listT l en.2).length : Int) := by omega
              have wb : IntKind.i64.wrap ((b : Int) + 1) = (b : Int) + 1 := Go.IntWalk.i64_in _ (by omega)
              have wtb : IntKind.i64.wrap (((totL l i a : Nat) : Int) + (b : Int)) = ((totL l i a + b : Nat) : Int) := by rw [show ((totL l i a : Nat) : Int) + (b : Int) = ((totL l i a + b : Nat) : Int) by omega]; exact Go.IntWalk.i64_in _ (by omega)
              have htb : totL l i a + b < (listT l i).length := by omega
              have tb0 : (0 : Int) ≤ ((totL l i a + b : Nat) : Int) := by omega
              have tb1 : ((totL l i a + b : Nat) : Int) < ((listT l i).length : Int) := by omega
              obtain ⟨b5, o5, rfl, hb5, c0, c1, c2, c3⟩ := line_at R1.out rfl b hlb
              obtain ⟨b6, o6, rfl, hb6, x0, x1, x2, x3⟩ := line_at R2.out rfl (totL l i a + b) htb
              obtain ⟨y, hy⟩ : ∃ y, y = (listT l en.2)[b] := ⟨_, rfl⟩
              rw [← hy] at c0 c1 c2 c3
              have hxy : (listT l i)[totL l i a + b] = underL en.1 y := by
                have hen := HE.out
                subst hen
                have h1 := HPA.out a hlt b hlb
                rw [List.getElem?_eq_getElem htb] at h1
                rw [hy]
                exact Option.some.inj h1
              rw [hxy] at x0 x1 x2 x3
              have hyp : y.path.length ≤ 20000 := by rw [hy]; exact listT_path HD.out.ok.nm HD.out.ok.len en.2 _ (List.getElem_mem hlb)
              rw [show (underL en.1 y).kind = y.kind from rfl] at x1
              rw [show (underL en.1 y).mode = y.mode from rfl] at x2
              rw [show (underL en.1 y).data = y.data from rfl] at x3
              clear hy hxy
              by_cases hpe : y.path = []
              · have e1 : y.path.isEmpty = true := by rw [hpe]; rfl
                have hu : (underL en.1 y).path = en.1 := by unfold underL; rw [if_pos hpe]
                rw [hu] at x0
                clear hpe hu
                go_upto_region 23 with (first
                  | (refine wpList_fresh1 ?_; intro V99 hb hA hs)
                  | (refine wpList_store_row rfl 56 _ _ rfl _ rfl rfl hA rfl (by kernel_rfl) rfl ?_; intro V100 hb2 hg hs2 hX))
                (try simp only [List.getElem_toArray]); (try simp only [List.getElem_cons_succ]); (try simp only [List.getElem_cons_zero]); (try simp only [Act.put]); (try simp only [List.setIfInBounds_toArray]); (try simp only [List.set_cons_succ]); (try simp only [List.set_cons_zero])
                have hbb : Below wr.heap.size wr V100 := hb.trans hb2
                obtain ⟨y0, y1, y2, y3⟩ := cells4L hX
                replace c0 := (hbb.cell (p := ⟨b5, o5 + b * 4, none⟩) hb5).trans c0
                replace c1 := (hbb.cell (p := ⟨b5, o5 + b * 4 + 1, none⟩) hb5).trans c1
                replace c2 := (hbb.cell (p := ⟨b5, o5 + b * 4 + 2, none⟩) hb5).trans c2
                replace c3 := (hbb.cell (p := ⟨b5, o5 + b * 4 + 3, none⟩) hb5).trans c3
                have HC2 := Lib.hid (HC.out.trans (hbb.mono HC.out.size))
                clear hb hb2 hg hs2 hA hX hs x0 x1 x2 x3 hbb
                go_quiet (fail)
                go_wp2_with fail
                go_roundw
                case rel => exact ⟨b + 1, by go_num, hlb, Lib.hid (bel_dn HC2.out _)⟩
                case measure => simp [RowKit.intOf]; omega
              · have e1 : y.path.isEmpty = false := by cases hxx : y.path with | nil => exact absurd hxx hpe | cons _ _ => rfl
                have hu : (underL en.1 y).path = en.1 ++ 47 :: y.path := by unfold underL; rw [if_neg hpe]
                rw [hu] at x0
                clear hpe hu
                have hq : bs en.1 ++ (⟨#[47]⟩ : ByteArray) ++ bs y.path = bs (en.1 ++ 47 :: y.path) := by
                  rw [show (⟨#[47]⟩ : ByteArray) = bs [47] from rfl, bs_app, bs_app]
                  simp
                go_upto_region 23 with (first
                  | (refine wpList_fresh1 ?_; intro V99 hb hA hs)
                  | (refine wpList_store_row rfl 56 _ _ rfl _ rfl rfl hA rfl (by kernel_rfl) rfl ?_; intro V100 hb2 hg hs2 hX))
                (try simp only [List.getElem_toArray]); (try simp only [List.getElem_cons_succ]); (try simp only [List.getElem_cons_zero]); (try simp only [Act.put]); (try simp only [List.setIfInBounds_toArray]); (try simp only [List.set_cons_succ]); (try simp only [List.set_cons_zero])
                have hbb : Below wr.heap.size wr V100 := hb.trans hb2
                obtain ⟨y0, y1, y2, y3⟩ := cells4L hX
                replace c0 := (hbb.cell (p := ⟨b5, o5 + b * 4, none⟩) hb5).trans c0
                replace c1 := (hbb.cell (p := ⟨b5, o5 + b * 4 + 1, none⟩) hb5).trans c1
                replace c2 := (hbb.cell (p := ⟨b5, o5 + b * 4 + 2, none⟩) hb5).trans c2
                replace c3 := (hbb.cell (p := ⟨b5, o5 + b * 4 + 3, none⟩) hb5).trans c3
                have HC2 := Lib.hid (HC.out.trans (hbb.mono HC.out.size))
                clear hb hb2 hg hs2 hA hX hs x0 x1 x2 x3 hbb
                go_quiet (fail)
                go_wp2_with fail
                go_roundw
                case rel => exact ⟨b + 1, by go_num, hlb, Lib.hid (bel_dn HC2.out _)⟩
                case measure => simp [RowKit.intOf]; omega
            · have jL : decide (b < (listT l en.2).length) = false := decide_eq_false hlb
              have jL2 : decide ((b : Int) < ((listT l en.2).length : Int)) = false := decide_eq_false (by omega)
              clear hlb n7
              have hA := BD.out
              obtain ⟨d0, d1, d2⟩ := cells3 hA
              go_wp2_with fail
              clear d0 d1 d2 hA
              refine (depth_g l most room en.2 HD.out.ok _ wr HG.out).mono ?_
              rintro e V99 ⟨rfl, hb⟩
              replace BD := Lib.hid ((hb.block _ (lt_some BD.out)).trans BD.out)
              replace HG := Lib.hid (HG.out.keep hb)
              replace HB := Lib.hid (HB.out.trans (hb.mono HB.out.size))
              replace RN := Lib.hid (rd_keep RN.out hb)
              replace NBL := Lib.hid ((hb.block _ (lt_some NBL.out)).trans NBL.out)
              replace HW := Lib.hid (HW.out.trans (hb.mono HW.out.size))
              replace HP := Lib.hid (HP.out.trans (hb.mono HP.out.size))
              replace R1 := Lib.hid (rd_keep R1.out hb)
              replace R2 := Lib.hid (rd_keep R2.out hb)
              replace HC := Lib.hid (HC.out.trans (hb.mono HC.out.size))
              clear hb
              go_wp2_with fail
              go_roundw
              case rel =>
                refine ⟨a + 1, ?_, ?_, by go_num, hlt, HW⟩
                · rw [HTS2.out]; go_num
                · rw [HDS2.out]; congr 1; omega
              case measure => simp [RowKit.intOf]; omega
        · have iL : decide (a < nn.names.length) = false := decide_eq_false hlt
          have iL2 : decide ((a : Int) < (nn.names.length : Int)) = false := decide_eq_false (by omega)
          have hae : a = nn.names.length := by omega
          subst hae
          clear hlt
          have hdu := depth_used HD.out.ok.rig i
          have hul := used_le l
          have hll := HD.out.ok.len
          have hda := HDA.out
          have hta := HTA.out
          have wd : IntKind.i64.wrap (((deepL l i nn.names.length : Nat) : Int) + 1) = ((deepL l i nn.names.length : Nat) : Int) + 1 := Go.IntWalk.i64_in _ (by omega)
          have hta2 := Lib.hid hta
          have hda2 := Lib.hid hda
          clear hta hda
          have hA := BD.out
          obtain ⟨d0, d1, d2⟩ := cells3 hA
          go_wp2_with fail
          clear d0 d1 d2 hA iL iL2 n7
          refine (list_g l most room i HD.out.ok _ wr HG.out).mono ?_
          rintro e V37 ⟨ao2, cap2, rfl, hr, hb⟩
          clear hr
          replace BD := Lib.hid ((hb.block _ (lt_some BD.out)).trans BD.out)
          replace HG := Lib.hid (HG.out.keep hb)
          replace HB := Lib.hid (HB.out.trans (hb.mono HB.out.size))
          replace RN := Lib.hid (rd_keep RN.out hb)
          replace NBL := Lib.hid ((hb.block _ (lt_some NBL.out)).trans NBL.out)
          replace HW := Lib.hid (HW.out.trans (hb.mono HW.out.size))
          clear hb
          rw [← hta2.out]
          have t1 : ((totL l i nn.names.length : Int) == (totL l i nn.names.length : Int)) = true := beq_self_eq_true _
          have hA := BD.out
          obtain ⟨d0, d1, d2⟩ := cells3 hA
          go_wp2_with fail
          clear d0 d1 d2 hA
          refine (depth_g l most room i HD.out.ok _ V37 HG.out).mono ?_
          rintro e V38 ⟨rfl, hb⟩
          replace BD := Lib.hid ((hb.block _ (lt_some BD.out)).trans BD.out)
          replace HG := Lib.hid (HG.out.keep hb)
          replace HB := Lib.hid (HB.out.trans (hb.mono HB.out.size))
          replace RN := Lib.hid (rd_keep RN.out hb)
          replace NBL := Lib.hid ((hb.block _ (lt_some NBL.out)).trans NBL.out)
          replace HW := Lib.hid (HW.out.trans (hb.mono HW.out.size))
          clear hb
          rw [hda2.out]
          go_wp2_with fail
          go_ret
          exact ⟨by simp, HB.out⟩
end Go.Proofs.Ytilhiafmljmljaa
