import Derived.Test.YtinoogmaikhpjaaGreatDoorR30
import Derived.Test.YtinoogmaikhpjaaGreatDoorR36
import Derived.Test.YtinoogmaikhpjaaGreatDoorR37
import Derived.Deep.RegionHeld3
import Derived.Deep.DeepCutAuto
namespace Go.Proofs.YtinoogmaikhpjaaGreatDoor
open Go.RowKit Go.Shelf
attribute [local go_sem ↓] Go.wp_at_zero Go.wp_at_succ
set_option maxRecDepth 100000 in
set_option maxHeartbeats 4000000 in
theorem pprocR_c {X : Nat → Prop} (k : KernL) (p : Nat) (ao ad af ap : Option Addr) (co cd cf cp : Nat) (w : World) (hD : DiskX k.l (.slice ao k.l.length co) X w) (hT : TabX k.t (.slice ad k.t.ds.length cd) (.slice af k.t.fs.length cf) X w) (hP : PsX k.ps (.slice ap k.ps.length cp) X w) (hz : SizeT k.t) (hr : RightT k.t) (hl : k.l.length ≤ 10000) (hn : ∀ n ∈ k.l, n.names.length ≤ 10000) :
    Calls Tryz.prog 13 #[.agg #[.slice ao k.l.length co, .int .i64 k.most, .int .i64 k.room, .slice ad k.t.ds.length cd, .slice af k.t.fs.length cf, .slice ap k.ps.length cp], .int .i64 (p : Int)] w fun e w' => e = .returned (.bool (procOk k p)) ∧ Below w.heap.size w w' := by
  have S0 := Lib.hid (Sf.start (w := w) (X := fun _ => False) (G := [DiskX k.l (.slice ao k.l.length co), TabX k.t (.slice ad k.t.ds.length cd) (.slice af k.t.fs.length cf), PsX k.ps (.slice ap k.ps.length cp)]) (fun _ h => h.elim) (th3 (DiskX.firm _ _) ((DiskX.firm _ _).sub hD fun _ h => h.elim) (TabX.firm _ _ _) ((TabX.firm _ _ _).sub hT fun _ h => h.elim) (PsX.firm _ _) ((PsX.firm _ _).sub hP fun _ h => h.elim)))
  have HZ := Lib.hid hz
  have HR := Lib.hid hr
  have HL := Lib.hid hl
  have HN := Lib.hid hn
  clear hD hT hP hz hr hl hn
  go_enter Tryz.func13, Tryz.ntmps13
  go_upto_region 1 with (fail)
  refine code_fresh1 ?_
  intro W1 hb hA0 hs
  have S1 := Lib.hid (S0.out.new1 hb hA0)
  clear hb hA0 hs
  have h_k := (S1.out.at 0 rfl)
  go_wp2_with (first | (refine wpList_load_row rfl 31 _ rfl _ rfl 31 _ (0, 0) _ h_k Tryz.underlying31 rfl (by kernel_rfl) ?_))
  refine (palive_c k (p : Int) _ _ _ _ _ _ _ _ W1 (S1.out.g 2 rfl)).mono ?_
  rintro e W2 ⟨rfl, hb⟩
  clear h_k
  have S2 := Lib.hid (S1.out.call hb)
  clear hb
  cases hl : liveB k.ps (p : Int) with
  | false =>
    obtain ⟨n, hn⟩ : ∃ n, n = countT k.t (p : Int) := ⟨_, rfl⟩
    have HO : Hid (procOk k p = decide (n = 0)) := Lib.hid (by unfold procOk; rw [hl, if_neg (by decide), hn])
    have HNN := Lib.hid hn
    clear hl hn
    have h_kt := k_tab (S2.out.at 0 rfl)
    go_wp2_with (first | (refine wpList_load_mid rfl 28 _ rfl _ 3 rfl _ _ h_kt Tryz.underlying28 rfl (by kernel_rfl) ?_) | (refine wpList_load_midG rfl 28 _ rfl _ 3 rfl _ _ h_kt Tryz.underlying28 rfl (by kernel_rfl) ?_))
    refine (pcount_c k.t _ _ _ _ W2 (S2.out.g 1 rfl) (p : Int) HZ.out HR.out).mono ?_
    rintro e W3 ⟨rfl, hb⟩
    clear h_kt
    have S3 := Lib.hid (S2.out.call hb)
    rw [← HNN.out]
    clear hb
    by_cases h0 : (n : Int) = 0
    · have i01 : ((n : Int) == 0) = true := by simpa using h0
      have i02 : decide ((n : Int) = 0) = true := decide_eq_true h0
      have i03 : ((n : Int) != 0) = false := by simpa using h0
      have H0 := Lib.hid h0
      clear h0
      go_wp2_with fail
      go_ret
      exact ⟨by rw [HO.out, decide_eq_true (show n = 0 by have := H0.out; omega)]; rfl, S3.out.bel⟩
    · have i01 : ((n : Int) == 0) = false := by simpa using h0
      have i02 : decide ((n : Int) = 0) = false := decide_eq_false h0
      have i03 : ((n : Int) != 0) = true := by simpa using h0
      have H0 := Lib.hid h0
      clear h0
      go_wp2_with fail
      go_ret
      exact ⟨by rw [HO.out, decide_eq_false (show ¬ n = 0 by have := H0.out; omega)]; rfl, S3.out.bel⟩
  | true =>
    obtain ⟨a, ha, epa, epl, -⟩ := live_in hl
    have hpa : p = a := by omega
    subst hpa
    clear epa
    obtain ⟨bp, offp, eap, pc0, pc1, pc2, -⟩ := PsX.proc (S2.out.g 2 rfl) p ha
    subst eap
    obtain ⟨x, hx⟩ : ∃ x, x = k.ps[p] := ⟨_, rfl⟩
    rw [← hx] at pc0 pc1 pc2
    have HXP := Lib.hid hx
    have HO : Hid (procOk k p = (decide ((nodeL k.l x.cwd).kind = 2) && (decide (0 ≤ x.umask) && decide (x.umask ≤ 63)))) := Lib.hid (by unfold procOk; rw [hl, if_pos rfl, epl, hx])
    have a0 : (0 : Int) ≤ (p : Int) := by omega
    have a1 : (p : Int) < (k.ps.length : Int) := by omega
    clear hx epl hl
    go_upto_region 3 with (fail)
    clear pc0 pc1 pc2
    obtain ⟨n, hnn⟩ : ∃ n, n = nodeL k.l x.cwd := ⟨_, rfl⟩
    obtain ⟨g, hg⟩ : ∃ g, g = gotB k.l x.cwd := ⟨_, rfl⟩
    have HNN := Lib.hid hnn
    have HG := Lib.hid hg
    clear hnn hg
    go_cut [5, 6] (fun s5 s6 wx => ∃ bn aon cpn, s5 = .pointer (some ⟨bn, 0, none⟩) ∧ s6 = .bool g ∧ Hid (Sf (fun _ => False) w [(w.heap.size, #[.slice ao k.l.length co, .int .i64 k.most, .int .i64 k.room, .slice ad k.t.ds.length cd, .slice af k.t.fs.length cf, .slice (some ⟨bp, offp, none⟩) k.ps.length cp], 31), (bn, #[.int .i64 n.kind, .int .i64 n.mode, .int .i64 n.owner, .int .i64 n.links, .int .i64 n.opn, .int .i64 n.up, .string (bs n.data), .slice aon n.names.length cpn], 47)] [DiskX k.l (.slice ao k.l.length co), TabX k.t (.slice ad k.t.ds.length cd) (.slice af k.t.fs.length cf), PsX k.ps (.slice (some ⟨bp, offp, none⟩) k.ps.length cp)] wx))
    case first =>
      have h_k := (S2.out.at 0 rfl)
      refine wp_region_held_drew (S := fun W => W.heap[w.heap.size]? = some (.cells #[.slice ao k.l.length co, .int .i64 k.most, .int .i64 k.room, .slice ad k.t.ds.length cd, .slice af k.t.fs.length cf, .slice (some ⟨bp, offp, none⟩) k.ps.length cp] 31 (0, 0)) ∧ W.rangeAt w.heap.size 0 [.slice ao k.l.length co, .int .i64 k.most, .int .i64 k.room] ∧ PsX k.ps (.slice (some ⟨bp, offp, none⟩) k.ps.length cp) (fun _ => False) W ∧ True) (by kernel_rfl) ⟨(S2.out.at 0 rfl), k_disk (S2.out.at 0 rfl), ((PsX.firm _ _).sub (S2.out.g 2 rfl) fun _ h => h.elim), trivial⟩ (fun hHeld => ?_)
      clear h_k
      have S3 := Lib.hid (S2.out.call (Below.refl W2.heap.size W2).drew)
      generalize W2.drew = W3 at *
      refine wpAnyH_take (i := 0) (v := ?v1) rfl (by kernel_rfl) (by kernel_rfl) (by kernel_rfl) (fun _ _ _ h => h) (Or.inl ⟨by rfl, ?hy1⟩) hHeld ?rest1
      case hy1 => (intro w hSw; (try dsimp only at hSw); (try go_split_ands); go_simp; first | done | with_reducible rfl)
      (try simp only [List.getElem_toArray]); (try simp only [List.getElem_cons_succ]); (try simp only [List.getElem_cons_zero]); (try simp only [Act.put]); (try simp only [List.setIfInBounds_toArray]); (try simp only [List.set_cons_succ]); (try simp only [List.set_cons_zero])
      refine wpAnyH_take (i := 1) rfl (by kernel_rfl) (by kernel_rfl) (by kernel_rfl) (fun _ _ _ h => h) (yieldsIf_load_mid (by rfl) 24 _ rfl _ 0 rfl _ _ (fun _ h => h.2.1) Tryz.underlying24 rfl (by kernel_rfl)) hHeld ?_
      (try simp only [List.getElem_toArray]); (try simp only [List.getElem_cons_succ]); (try simp only [List.getElem_cons_zero]); (try simp only [Act.put]); (try simp only [List.setIfInBounds_toArray]); (try simp only [List.set_cons_succ]); (try simp only [List.set_cons_zero])
      refine wpAnyH_take (i := 2) (v := ?v2) rfl (by kernel_rfl) (by kernel_rfl) (by kernel_rfl) (fun _ _ _ h => h) (Or.inl ⟨by rfl, ?hy2⟩) hHeld ?rest2
      case hy2 => (intro w hSw; (try dsimp only at hSw); (try go_split_ands); go_simp; first | done | with_reducible rfl)
      (try simp only [List.getElem_toArray]); (try simp only [List.getElem_cons_succ]); (try simp only [List.getElem_cons_zero]); (try simp only [Act.put]); (try simp only [List.setIfInBounds_toArray]); (try simp only [List.set_cons_succ]); (try simp only [List.set_cons_zero])
      refine wpAnyH_take (i := 3) (v := ?v3) rfl (by kernel_rfl) (by kernel_rfl) (by kernel_rfl) (fun _ _ _ h => h) (Or.inl ⟨by rfl, ?hy3⟩) hHeld ?rest3
      case hy3 => (intro w hSw; (try dsimp only at hSw); have hcc := (cells6 hSw.1).2.2.2.2.2; (try go_split_ands); go_simp; first | done | with_reducible rfl)
      (try simp only [List.getElem_toArray]); (try simp only [List.getElem_cons_succ]); (try simp only [List.getElem_cons_zero]); (try simp only [Act.put]); (try simp only [List.setIfInBounds_toArray]); (try simp only [List.set_cons_succ]); (try simp only [List.set_cons_zero])
      refine wpAnyH_take (i := 4) (v := ?v4) rfl (by kernel_rfl) (by kernel_rfl) (by kernel_rfl) (fun _ _ _ h => h) (Or.inl ⟨by rfl, ?hy4⟩) hHeld ?rest4
      case hy4 => (intro w hSw; (try dsimp only at hSw); (try go_split_ands); go_simp; first | done | with_reducible rfl)
      (try simp only [List.getElem_toArray]); (try simp only [List.getElem_cons_succ]); (try simp only [List.getElem_cons_zero]); (try simp only [Act.put]); (try simp only [List.setIfInBounds_toArray]); (try simp only [List.set_cons_succ]); (try simp only [List.set_cons_zero])
      refine wpAnyH_take (i := 5) (v := ?v5) rfl (by kernel_rfl) (by kernel_rfl) (by kernel_rfl) (fun _ _ _ h => h) (Or.inl ⟨by rfl, ?hy5⟩) hHeld ?rest5
      case hy5 => (intro w hSw; (try dsimp only at hSw); (try go_split_ands); go_simp; first | done | with_reducible rfl)
      (try simp only [List.getElem_toArray]); (try simp only [List.getElem_cons_succ]); (try simp only [List.getElem_cons_zero]); (try simp only [Act.put]); (try simp only [List.setIfInBounds_toArray]); (try simp only [List.set_cons_succ]); (try simp only [List.set_cons_zero])
      refine wpAnyH_take (i := 6) (v := ?v6) rfl (by kernel_rfl) (by kernel_rfl) (by kernel_rfl) (fun _ _ _ h => h) (Or.inl ⟨by rfl, ?hy6⟩) hHeld ?rest6
      case hy6 => (intro w hSw; (try dsimp only at hSw); (try go_split_ands); go_simp; first | done | with_reducible rfl)
      (try simp only [List.getElem_toArray]); (try simp only [List.getElem_cons_succ]); (try simp only [List.getElem_cons_zero]); (try simp only [Act.put]); (try simp only [List.setIfInBounds_toArray]); (try simp only [List.set_cons_succ]); (try simp only [List.set_cons_zero])
      refine wpAnyH_take (i := 7) (v := ?v7) rfl (by kernel_rfl) (by kernel_rfl) (by kernel_rfl) (fun _ _ _ h => h) (Or.inl ⟨by rfl, ?hy7⟩) hHeld ?rest7
      case hy7 => (intro w hSw; (try dsimp only at hSw); have hcc := PsX.c2 hSw.2.2.1 p ha; rw [← HXP.out] at hcc; (try go_split_ands); go_simp; first | done | with_reducible rfl)
      (try simp only [List.getElem_toArray]); (try simp only [List.getElem_cons_succ]); (try simp only [List.getElem_cons_zero]); (try simp only [Act.put]); (try simp only [List.setIfInBounds_toArray]); (try simp only [List.set_cons_succ]); (try simp only [List.set_cons_zero])
      refine wpAnyH_ready (rs := [8, 12]) (by kernel_rfl) (by simp) ?_
      refine AllReadyH.cons rfl (fun K hK => ?_) (AllReadyH.cons rfl (fun K hK => ?_) AllReadyH.nil)
      · skip
        go_simp
        refine (get_g _ k.l k.most k.room x.cwd _ W3 S3.out.oldX (S3.out.g 0 rfl) HL.out HN.out).mono ?_
        rintro e W4 ⟨aon, cpn, rfl, hn, hb⟩
        have S4 := Lib.hid (S3.out.call hb)
        clear hn
        rw [← HNN.out, ← HG.out]
        clear hb hHeld
        go_wp2_with fail
        refine hK.out _ _ ⟨(S4.out.at 0 rfl), k_disk (S4.out.at 0 rfl), ((PsX.firm _ _).sub (S4.out.g 2 rfl) fun _ h => h.elim), trivial⟩ (fun hHeld => ?_)
        clear hK K
        (try simp only [List.getElem_toArray]); (try simp only [List.getElem_cons_succ]); (try simp only [List.getElem_cons_zero]); (try simp only [Act.put]); (try simp only [List.setIfInBounds_toArray]); (try simp only [List.set_cons_succ]); (try simp only [List.set_cons_zero])
        refine wpAnyH_take (i := 9) (v := ?v8) rfl (by kernel_rfl) (by kernel_rfl) (by kernel_rfl) (fun _ _ _ h => h) (Or.inl ⟨by rfl, ?hy8⟩) hHeld ?rest8
        case hy8 => (intro w hSw; (try dsimp only at hSw); (try go_split_ands); go_simp; first | done | with_reducible rfl)
        (try simp only [List.getElem_toArray]); (try simp only [List.getElem_cons_succ]); (try simp only [List.getElem_cons_zero]); (try simp only [Act.put]); (try simp only [List.setIfInBounds_toArray]); (try simp only [List.set_cons_succ]); (try simp only [List.set_cons_zero])
        refine wpAnyH_take (i := 10) (v := ?v9) rfl (by kernel_rfl) (by kernel_rfl) (by kernel_rfl) (fun _ _ _ h => h) (Or.inl ⟨by rfl, ?hy9⟩) hHeld ?rest9
        case hy9 => (intro w hSw; (try dsimp only at hSw); (try go_split_ands); go_simp; first | done | with_reducible rfl)
        (try simp only [List.getElem_toArray]); (try simp only [List.getElem_cons_succ]); (try simp only [List.getElem_cons_zero]); (try simp only [Act.put]); (try simp only [List.setIfInBounds_toArray]); (try simp only [List.set_cons_succ]); (try simp only [List.set_cons_zero])
        refine wpAnyH_take (i := 11) (v := ?v10) rfl (by kernel_rfl) (by kernel_rfl) (by kernel_rfl) (fun _ _ _ h => h) (Or.inl ⟨by rfl, ?hy10⟩) hHeld ?rest10
        case hy10 => (intro w hSw; (try dsimp only at hSw); (try go_split_ands); go_simp; first | done | with_reducible rfl)
        (try simp only [List.getElem_toArray]); (try simp only [List.getElem_cons_succ]); (try simp only [List.getElem_cons_zero]); (try simp only [Act.put]); (try simp only [List.setIfInBounds_toArray]); (try simp only [List.set_cons_succ]); (try simp only [List.set_cons_zero])
        refine wpAnyH_ready (rs := [12]) (by kernel_rfl) (by simp) ?_
        refine AllReadyH.cons rfl (fun K hK => ?_) AllReadyH.nil
        go_simp
        refine fresh1 (P := fun W => K _ W) ?_
        intro W5 hb hn hs
        have S5 := Lib.hid (S4.out.new1 hb hn)
        clear hb hn hs hHeld
        refine hK.out _ _ ⟨(S5.out.at 0 rfl), k_disk (S5.out.at 0 rfl), ((PsX.firm _ _).sub (S5.out.g 2 rfl) fun _ h => h.elim), trivial⟩ (fun hHeld => ?_)
        clear hK K
        (try simp only [List.getElem_toArray]); (try simp only [List.getElem_cons_succ]); (try simp only [List.getElem_cons_zero]); (try simp only [Act.put]); (try simp only [List.setIfInBounds_toArray]); (try simp only [List.set_cons_succ]); (try simp only [List.set_cons_zero])
        refine wpAnyH_ready (rs := [13]) (by kernel_rfl) (by simp) ?_
        refine AllReadyH.cons rfl (fun K hK => ?_) AllReadyH.nil
        rw [if_pos (by rfl)]
        refine wp_store_row 47 _ _ rfl _ rfl rfl (S5.out.at 1 rfl) rfl (by kernel_rfl) rfl ?_
        intro W6 hb hg hs hn
        have S6 := Lib.hid (S5.out.set 1 rfl hb hg hs hn)
        clear hb hg hs hn hHeld
        refine hK.out _ _ ⟨(S6.out.at 0 rfl), k_disk (S6.out.at 0 rfl), ((PsX.firm _ _).sub (S6.out.g 2 rfl) fun _ h => h.elim), trivial⟩ (fun hHeld => ?_)
        clear hK K
        (try simp only [List.getElem_toArray]); (try simp only [List.getElem_cons_succ]); (try simp only [List.getElem_cons_zero]); (try simp only [Act.put]); (try simp only [List.setIfInBounds_toArray]); (try simp only [List.set_cons_succ]); (try simp only [List.set_cons_zero])
        refine wpAnyH_take (i := 14) (v := ?v11) rfl (by kernel_rfl) (by kernel_rfl) (by kernel_rfl) (fun _ _ _ h => h) (Or.inl ⟨by rfl, ?hy11⟩) hHeld ?rest11
        case hy11 => (intro w hSw; (try dsimp only at hSw); (try go_split_ands); go_simp; first | done | with_reducible rfl)
        (try simp only [List.getElem_toArray]); (try simp only [List.getElem_cons_succ]); (try simp only [List.getElem_cons_zero]); (try simp only [Act.put]); (try simp only [List.setIfInBounds_toArray]); (try simp only [List.set_cons_succ]); (try simp only [List.set_cons_zero])
        refine wpAnyH_done (by kernel_rfl) ?_ _
        go_wp2_with fail
        go_meet
        exact ⟨_, _, _, rfl, rfl, S6⟩
      · skip
        go_simp
        refine fresh1 (P := fun W => K _ W) ?_
        intro W4 hb hn hs
        have S4 := Lib.hid (S3.out.new1 hb hn)
        clear hb hn hs hHeld
        refine hK.out _ _ ⟨(S4.out.at 0 rfl), k_disk (S4.out.at 0 rfl), ((PsX.firm _ _).sub (S4.out.g 2 rfl) fun _ h => h.elim), trivial⟩ (fun hHeld => ?_)
        clear hK K
        (try simp only [List.getElem_toArray]); (try simp only [List.getElem_cons_succ]); (try simp only [List.getElem_cons_zero]); (try simp only [Act.put]); (try simp only [List.setIfInBounds_toArray]); (try simp only [List.set_cons_succ]); (try simp only [List.set_cons_zero])
        refine wpAnyH_ready (rs := [8]) (by kernel_rfl) (by simp) ?_
        refine AllReadyH.cons rfl (fun K hK => ?_) AllReadyH.nil
        go_simp
        refine (get_g _ k.l k.most k.room x.cwd _ W4 S4.out.oldX (S4.out.g 0 rfl) HL.out HN.out).mono ?_
        rintro e W5 ⟨aon, cpn, rfl, hn, hb⟩
        have S5 := Lib.hid (S4.out.call hb)
        clear hn
        rw [← HNN.out, ← HG.out]
        clear hb hHeld
        go_wp2_with fail
        refine hK.out _ _ ⟨(S5.out.at 0 rfl), k_disk (S5.out.at 0 rfl), ((PsX.firm _ _).sub (S5.out.g 2 rfl) fun _ h => h.elim), trivial⟩ (fun hHeld => ?_)
        clear hK K
        (try simp only [List.getElem_toArray]); (try simp only [List.getElem_cons_succ]); (try simp only [List.getElem_cons_zero]); (try simp only [Act.put]); (try simp only [List.setIfInBounds_toArray]); (try simp only [List.set_cons_succ]); (try simp only [List.set_cons_zero])
        refine wpAnyH_take (i := 9) (v := ?v12) rfl (by kernel_rfl) (by kernel_rfl) (by kernel_rfl) (fun _ _ _ h => h) (Or.inl ⟨by rfl, ?hy12⟩) hHeld ?rest12
        case hy12 => (intro w hSw; (try dsimp only at hSw); (try go_split_ands); go_simp; first | done | with_reducible rfl)
        (try simp only [List.getElem_toArray]); (try simp only [List.getElem_cons_succ]); (try simp only [List.getElem_cons_zero]); (try simp only [Act.put]); (try simp only [List.setIfInBounds_toArray]); (try simp only [List.set_cons_succ]); (try simp only [List.set_cons_zero])
        refine wpAnyH_take (i := 10) (v := ?v13) rfl (by kernel_rfl) (by kernel_rfl) (by kernel_rfl) (fun _ _ _ h => h) (Or.inl ⟨by rfl, ?hy13⟩) hHeld ?rest13
        case hy13 => (intro w hSw; (try dsimp only at hSw); (try go_split_ands); go_simp; first | done | with_reducible rfl)
        (try simp only [List.getElem_toArray]); (try simp only [List.getElem_cons_succ]); (try simp only [List.getElem_cons_zero]); (try simp only [Act.put]); (try simp only [List.setIfInBounds_toArray]); (try simp only [List.set_cons_succ]); (try simp only [List.set_cons_zero])
        refine wpAnyH_take (i := 11) (v := ?v14) rfl (by kernel_rfl) (by kernel_rfl) (by kernel_rfl) (fun _ _ _ h => h) (Or.inl ⟨by rfl, ?hy14⟩) hHeld ?rest14
        case hy14 => (intro w hSw; (try dsimp only at hSw); (try go_split_ands); go_simp; first | done | with_reducible rfl)
        (try simp only [List.getElem_toArray]); (try simp only [List.getElem_cons_succ]); (try simp only [List.getElem_cons_zero]); (try simp only [Act.put]); (try simp only [List.setIfInBounds_toArray]); (try simp only [List.set_cons_succ]); (try simp only [List.set_cons_zero])
        refine wpAnyH_ready (rs := [13]) (by kernel_rfl) (by simp) ?_
        refine AllReadyH.cons rfl (fun K hK => ?_) AllReadyH.nil
        rw [if_pos (by rfl)]
        refine wp_store_row 47 _ _ rfl _ rfl rfl (S5.out.at 1 rfl) rfl (by kernel_rfl) rfl ?_
        intro W6 hb hg hs hn
        have S6 := Lib.hid (S5.out.set 1 rfl hb hg hs hn)
        clear hb hg hs hn hHeld
        refine hK.out _ _ ⟨(S6.out.at 0 rfl), k_disk (S6.out.at 0 rfl), ((PsX.firm _ _).sub (S6.out.g 2 rfl) fun _ h => h.elim), trivial⟩ (fun hHeld => ?_)
        clear hK K
        (try simp only [List.getElem_toArray]); (try simp only [List.getElem_cons_succ]); (try simp only [List.getElem_cons_zero]); (try simp only [Act.put]); (try simp only [List.setIfInBounds_toArray]); (try simp only [List.set_cons_succ]); (try simp only [List.set_cons_zero])
        refine wpAnyH_take (i := 14) (v := ?v15) rfl (by kernel_rfl) (by kernel_rfl) (by kernel_rfl) (fun _ _ _ h => h) (Or.inl ⟨by rfl, ?hy15⟩) hHeld ?rest15
        case hy15 => (intro w hSw; (try dsimp only at hSw); (try go_split_ands); go_simp; first | done | with_reducible rfl)
        (try simp only [List.getElem_toArray]); (try simp only [List.getElem_cons_succ]); (try simp only [List.getElem_cons_zero]); (try simp only [Act.put]); (try simp only [List.setIfInBounds_toArray]); (try simp only [List.set_cons_succ]); (try simp only [List.set_cons_zero])
        refine wpAnyH_done (by kernel_rfl) ?_ _
        go_wp2_with fail
        go_meet
        exact ⟨_, _, _, rfl, rfl, S6⟩
    case rest =>
      obtain ⟨bn, aon, cpn, rfl, rfl, S3⟩ := hcut
      generalize wc = W3 at *
      obtain ⟨bp2, offp2, eap2, -, pc1, -, -⟩ := PsX.proc (S3.out.g 2 rfl) p ha
      injection eap2 with eap2
      injection eap2 with ebp eop _
      subst ebp
      subst eop
      rw [← HXP.out] at pc1
      obtain ⟨-, -, -, -, -, k5⟩ := cells6 (S3.out.at 0 rfl)
      go_upto_region 5 with (fail)
      clear k5
      clear pc1
      obtain ⟨n0, -, -, -, -, -, -, -⟩ := cells8 (S3.out.at 1 rfl)
      by_cases h2 : n.kind = 2
      · have i21 : (n.kind == 2) = true := by simpa using h2
        have i22 : decide (n.kind = 2) = true := decide_eq_true h2
        have i23 : (n.kind != 2) = false := by simpa using h2
        obtain rfl : g = true := by rw [HG.out]; exact kind_got (by rw [← HNN.out, h2]; decide)
        clear h2
        by_cases u0 : 0 ≤ x.umask
        · have i3 : decide (0 ≤ x.umask) = true := decide_eq_true u0
          have i4 : decide (x.umask ≥ 0) = true := i3
          by_cases u1 : x.umask ≤ 63
          · have i5 : decide (x.umask ≤ 63) = true := decide_eq_true u1
            go_wp2_with fail
            go_ret
            exact ⟨by rw [HO.out, ← HNN.out, i22, i3, i5]; rfl, S3.out.bel⟩
          · have i5 : decide (x.umask ≤ 63) = false := decide_eq_false u1
            go_wp2_with fail
            go_ret
            exact ⟨by rw [HO.out, ← HNN.out, i22, i3, i5]; rfl, S3.out.bel⟩
        · have i3 : decide (0 ≤ x.umask) = false := decide_eq_false u0
          have i4 : decide (x.umask ≥ 0) = false := i3
          go_wp2_with fail
          go_ret
          exact ⟨by rw [HO.out, ← HNN.out, i22, i3]; rfl, S3.out.bel⟩
      · have i21 : (n.kind == 2) = false := by simpa using h2
        have i22 : decide (n.kind = 2) = false := decide_eq_false h2
        have i23 : (n.kind != 2) = true := by simpa using h2
        clear h2
        cases g with
        | true =>
          go_wp2_with fail
          go_ret
          exact ⟨by rw [HO.out, ← HNN.out, i22]; rfl, S3.out.bel⟩
        | false =>
          go_wp2_with fail
          go_ret
          exact ⟨by rw [HO.out, ← HNN.out, i22]; rfl, S3.out.bel⟩
end Go.Proofs.YtinoogmaikhpjaaGreatDoor
