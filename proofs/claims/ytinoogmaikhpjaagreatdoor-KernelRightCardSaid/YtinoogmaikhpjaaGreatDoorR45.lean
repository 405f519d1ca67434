import Derived.Test.YtinoogmaikhpjaaGreatDoorR47
import Derived.Test.YtinoogmaikhpjaaGreatDoorR23
import Derived.Test.YtinoogmaikhpjaaGreatDoorR29
import Derived.Test.YtinoogmaikhpjaaGreatDoorR31
import Derived.Test.YtinoogmaikhpjaaGreatDoorR35
import Derived.Test.YtinoogmaikhpjaaGreatDoorR44
import Derived.Deep.RegionHeld3
import Derived.Deep.DeepCutAuto
namespace Go.Proofs.YtinoogmaikhpjaaGreatDoor
open Go.RowKit Go.Shelf
attribute [local go_sem ↓] Go.wp_at_zero Go.wp_at_succ
theorem names_small12 {l : List NodeL} (h : Small l) : ∀ n ∈ l, n.names.length ≤ 10000 := fun n hn => Nat.le_trans (h.2 n hn).2 (by decide)
set_option maxRecDepth 100000 in
set_option maxHeartbeats 4000000 in
theorem right12_l (S : Nat → Addr) (k : KernL) (ao ad af ap : Option Addr) (co cd cf cp : Nat) (w : World) (hE : Env S w) (hD : DiskX k.l (.slice ao k.l.length co) (fun _ => False) w) (hT : TabX k.t (.slice ad k.t.ds.length cd) (.slice af k.t.fs.length cf) (fun _ => False) w) (hP : PsX k.ps (.slice ap k.ps.length cp) (fun _ => False) w) (hf : FitD k.l) (hpos : PosD k.t.ds)   :
    Calls Tryz.prog 3 #[.agg #[.slice ao k.l.length co, .int .i64 k.most, .int .i64 k.room, .slice ad k.t.ds.length cd, .slice af k.t.fs.length cf, .slice ap k.ps.length cp]] w fun e w' => e = .returned (.bool true) ∧ Below w.heap.size w w' := by
  have S0 := Lib.hid (Sf.start (w := w) (X := fun _ => False) (G := [DiskX k.l (.slice ao k.l.length co), TabX k.t (.slice ad k.t.ds.length cd) (.slice af k.t.fs.length cf), PsX k.ps (.slice ap k.ps.length cp), EnvX S]) (fun _ h => h.elim) (th4 (DiskX.firm _ _) hD (TabX.firm _ _ _) hT (PsX.firm _ _) hP (EnvX.firm _) (EnvX.none hE))); (try dsimp only [List.cons_append, List.nil_append, List.set_cons_succ, List.set_cons_zero] at S0)
  have HFD := Lib.hid hf
  have HPOS := Lib.hid hpos
  clear hD hT hP hE hf hpos
  go_enter Tryz.func3, Tryz.ntmps3
  go_upto_region 1 with (fail)
  refine code_fresh1 ?_
  intro W1 hb hA0 hs
  have S1 := Lib.hid (S0.out.new1 hb hA0); (try dsimp only [List.cons_append, List.nil_append, List.set_cons_succ, List.set_cons_zero] at S1)
  (try clear S0)
  clear hb hA0 hs
  have h_k := (S1.out.at 0 rfl)
  go_wp2_with (first | (refine wpList_load_row rfl 31 _ rfl _ rfl 31 _ (0, 0) _ h_k Tryz.underlying31 rfl (by kernel_rfl) ?_))
  refine (small_c k _ _ _ _ _ _ _ _ W1 (S1.out.g 0 rfl) (S1.out.g 1 rfl) (S1.out.g 2 rfl)).mono ?_
  rintro e W2 ⟨b, rfl, hsm, hb⟩
  clear h_k
  have S2 := Lib.hid (S1.out.call hb); (try dsimp only [List.cons_append, List.nil_append, List.set_cons_succ, List.set_cons_zero] at S2)
  (try clear S1)
  have HSM := Lib.hid hsm
  clear hsm hb
  cases b with
  | false =>
    go_wp2_with fail
    go_wp2_with fail
    refine (shown_c _ S W2 S2.out.oldX (S2.out.g 3 rfl)).mono ?_
    rintro e W3 ⟨rfl, hb⟩
    have S3 := Lib.hid (S2.out.call hb); (try dsimp only [List.cons_append, List.nil_append, List.set_cons_succ, List.set_cons_zero] at S3)
    clear hb
    go_wp2_with fail
    go_ret
    exact ⟨by first | rfl | simp, S3.out.bel⟩
  | true =>
    have HS := Lib.hid (HSM.out rfl)
    clear HSM
    go_wp2_with fail
    refine (shown_c _ S W2 S2.out.oldX (S2.out.g 3 rfl)).mono ?_
    rintro e W3 ⟨rfl, hb⟩
    have S3 := Lib.hid (S2.out.call hb); (try dsimp only [List.cons_append, List.nil_append, List.set_cons_succ, List.set_cons_zero] at S3)
    (try clear S2)
    clear hb
    go_upto_region 3 with (fail)
    obtain ⟨rk, hrk⟩ : ∃ r, r = rightK k := ⟨_, rfl⟩
    have HRK := Lib.hid hrk
    clear hrk
    have hrr : (rk == rk) = true := by simp
    have hr2 : decide (rk = rk) = true := decide_eq_true rfl
    have h_k := (S3.out.at 0 rfl)
    refine wp_region_held_drew (S := fun W => W.heap[w.heap.size]? = some (.cells #[.slice ao k.l.length co, .int .i64 k.most, .int .i64 k.room, .slice ad k.t.ds.length cd, .slice af k.t.fs.length cf, .slice ap k.ps.length cp] 31 (0, 0)) ∧ True) (by kernel_rfl) ⟨(S3.out.at 0 rfl), trivial⟩ (fun hHeld => ?_)
    clear h_k
    have S4 := Lib.hid (S3.out.call (Below.refl W3.heap.size W3).drew); (try dsimp only [List.cons_append, List.nil_append, List.set_cons_succ, List.set_cons_zero] at S4)
    (try clear S3)
    generalize W3.drew = W4 at *
    refine wpAnyH_take (i := 0) rfl (by kernel_rfl) (by kernel_rfl) (by kernel_rfl) (fun _ _ _ h => h) (yieldsIf_load_row (by rfl) 31 _ rfl _ rfl 31 _ (0, 0) _ (fun _ h => h.1) Tryz.underlying31 rfl (by kernel_rfl)) hHeld ?_
    (try simp only [List.getElem_toArray]); (try simp only [List.getElem_cons_succ]); (try simp only [List.getElem_cons_zero]); (try simp only [Act.put]); (try simp only [List.setIfInBounds_toArray]); (try simp only [List.set_cons_succ]); (try simp only [List.set_cons_zero])
    refine wpAnyH_take (i := 2) rfl (by kernel_rfl) (by kernel_rfl) (by kernel_rfl) (fun _ _ _ h => h) (yieldsIf_load_row (by rfl) 31 _ rfl _ rfl 31 _ (0, 0) _ (fun _ h => h.1) Tryz.underlying31 rfl (by kernel_rfl)) hHeld ?_
    (try simp only [List.getElem_toArray]); (try simp only [List.getElem_cons_succ]); (try simp only [List.getElem_cons_zero]); (try simp only [Act.put]); (try simp only [List.setIfInBounds_toArray]); (try simp only [List.set_cons_succ]); (try simp only [List.set_cons_zero])
    refine wpAnyH_ready (rs := [1]) (by kernel_rfl) (by simp) ?_
    refine AllReadyH.cons rfl (fun K hK => ?_) AllReadyH.nil
    go_simp
    refine (pRight_c k _ _ _ _ _ _ _ _ W4 (S4.out.g 0 rfl) (S4.out.g 1 rfl) (S4.out.g 2 rfl) HS.out.tab HS.out.disk HFD.out (Nat.le_trans HS.out.ps (by decide))).mono ?_
    rintro e W5 ⟨rfl, hb⟩
    have S5 := Lib.hid (S4.out.call hb); (try dsimp only [List.cons_append, List.nil_append, List.set_cons_succ, List.set_cons_zero] at S5)
    (try clear S4)
    rw [← HRK.out]
    clear hb hHeld
    go_wp2_with fail
    refine hK.out _ _ ⟨(S5.out.at 0 rfl), trivial⟩ (fun hHeld => ?_)
    clear hK K
    (try simp only [List.getElem_toArray]); (try simp only [List.getElem_cons_succ]); (try simp only [List.getElem_cons_zero]); (try simp only [Act.put]); (try simp only [List.setIfInBounds_toArray]); (try simp only [List.set_cons_succ]); (try simp only [List.set_cons_zero])
    refine wpAnyH_ready (rs := [3]) (by kernel_rfl) (by simp) ?_
    refine AllReadyH.cons rfl (fun K hK => ?_) AllReadyH.nil
    go_simp
    refine (kern_c _ k _ _ _ _ _ _ _ _ W5 S5.out.oldX (S5.out.g 0 rfl) (S5.out.g 1 rfl) (S5.out.g 2 rfl) (Nat.le_trans HS.out.disk.1 (by decide)) (names_small12 HS.out.disk) HS.out.tab (Nat.le_trans HS.out.ps (by decide))).mono ?_
    rintro e W6 ⟨ao2, co2, ad2, cd2, ap2, cp2, rfl, hD, hT, hP, hb⟩
    have S6 := Lib.hid ((((S5.out.call hb).more (DiskX.firm _ _) hD).more (TabX.firm _ _ _) hT).more (PsX.firm _ _) hP); (try dsimp only [List.cons_append, List.nil_append, List.set_cons_succ, List.set_cons_zero] at S6)
    (try clear S5)
    clear hb hHeld hD hT hP
    go_wp2_with fail
    refine hK.out _ _ ⟨(S6.out.at 0 rfl), trivial⟩ (fun hHeld => ?_)
    clear hK K
    (try simp only [List.getElem_toArray]); (try simp only [List.getElem_cons_succ]); (try simp only [List.getElem_cons_zero]); (try simp only [Act.put]); (try simp only [List.setIfInBounds_toArray]); (try simp only [List.set_cons_succ]); (try simp only [List.set_cons_zero])
    refine wpAnyH_ready (rs := [4]) (by kernel_rfl) (by simp) ?_
    refine AllReadyH.cons rfl (fun K hK => ?_) AllReadyH.nil
    go_simp
    refine (rrightK_c k _ _ _ _ _ _ _ _ W6 (S6.out.g 4 rfl) (S6.out.g 5 rfl) (S6.out.g 6 rfl) HS.out.tab HS.out.disk HFD.out (Nat.le_trans HS.out.ps (by decide))).mono ?_
    rintro e W7 ⟨rfl, hb⟩
    have S7 := Lib.hid (S6.out.call hb); (try dsimp only [List.cons_append, List.nil_append, List.set_cons_succ, List.set_cons_zero] at S7)
    (try clear S6)
    rw [← HRK.out]
    clear hb hHeld
    go_wp2_with fail
    refine hK.out _ _ ⟨(S7.out.at 0 rfl), trivial⟩ (fun hHeld => ?_)
    clear hK K
    (try simp only [List.getElem_toArray]); (try simp only [List.getElem_cons_succ]); (try simp only [List.getElem_cons_zero]); (try simp only [Act.put]); (try simp only [List.setIfInBounds_toArray]); (try simp only [List.set_cons_succ]); (try simp only [List.set_cons_zero])
    refine wpAnyH_take (i := 5) (v := ?v1) rfl (by kernel_rfl) (by kernel_rfl) (by kernel_rfl) (fun _ _ _ h => h) (Or.inl ⟨by rfl, ?hy1⟩) hHeld ?rest1
    case hy1 => (intro w hSw; (try dsimp only at hSw); (try go_split_ands); go_simp; first | done | with_reducible rfl)
    (try simp only [List.getElem_toArray]); (try simp only [List.getElem_cons_succ]); (try simp only [List.getElem_cons_zero]); (try simp only [Act.put]); (try simp only [List.setIfInBounds_toArray]); (try simp only [List.set_cons_succ]); (try simp only [List.set_cons_zero])
    refine wpAnyH_take (i := 6) (v := ?v2) rfl (by kernel_rfl) (by kernel_rfl) (by kernel_rfl) (fun _ _ _ h => h) (Or.inl ⟨by rfl, ?hy2⟩) hHeld ?rest2
    case hy2 => (intro w hSw; (try dsimp only at hSw); (try go_split_ands); go_simp; first | done | with_reducible rfl)
    (try simp only [List.getElem_toArray]); (try simp only [List.getElem_cons_succ]); (try simp only [List.getElem_cons_zero]); (try simp only [Act.put]); (try simp only [List.setIfInBounds_toArray]); (try simp only [List.set_cons_succ]); (try simp only [List.set_cons_zero])
    refine wpAnyH_done (by kernel_rfl) ?_ _
    go_wp2_with fail
    go_ret
    exact ⟨by first | rfl | (rw [hrr]; rfl) | simp, S7.out.bel⟩
end Go.Proofs.YtinoogmaikhpjaaGreatDoor
