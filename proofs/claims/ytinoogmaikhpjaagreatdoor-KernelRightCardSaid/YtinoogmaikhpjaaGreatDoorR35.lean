import Derived.Test.YtinoogmaikhpjaaGreatDoorR30
import Derived.Test.YtinoogmaikhpjaaGreatDoorR28
import Derived.Test.YtinoogmaikhpjaaGreatDoorR26
import Derived.Test.YtinoogmaikhpjaaGreatDoorR34
import Derived.Deep.RegionHeld3
import Derived.Deep.DeepCutAuto
namespace Go.Proofs.YtinoogmaikhpjaaGreatDoor
open Go.RowKit Go.Shelf
attribute [local go_sem ↓] Go.wp_at_zero Go.wp_at_succ
theorem rdright_c {X : Nat → Prop} {l : List NodeL} {v : Value} {w : World} (most room : Int) (h : DiskX l v X w) (hs : Small l) (hf : FitD l) :
    Calls Tryz.prog 15 #[.agg #[v, .int .i64 most, .int .i64 room]] w fun e w' => e = .returned (.bool (rightR l most room)) ∧ Below w.heap.size w w' := by
  obtain ⟨ms, rfl, hr, _⟩ := h
  exact rright_any v ms most room w hr hs hf
set_option maxRecDepth 100000 in
set_option maxHeartbeats 4000000 in
theorem rrightK_c {X : Nat → Prop} (k : KernL) (ao ad af ap : Option Addr) (co cd cf cp : Nat) (w : World) (hD : DiskX k.l (.slice ao k.l.length co) X w) (hT : TabX k.t (.slice ad k.t.ds.length cd) (.slice af k.t.fs.length cf) X w) (hP : PsX k.ps (.slice ap k.ps.length cp) X w) (hz : SizeT k.t) (hs : Small k.l) (hf : FitD k.l) (hpl : k.ps.length ≤ 1000) :
    Calls Tryz.prog 7 #[.agg #[.slice ao k.l.length co, .int .i64 k.most, .int .i64 k.room, .slice ad k.t.ds.length cd, .slice af k.t.fs.length cf, .slice ap k.ps.length cp]] w fun e w' => e = .returned (.bool (rightK k)) ∧ Below w.heap.size w w' := by
  have S0 := Lib.hid (Sf.start (w := w) (X := fun _ => False) (G := [DiskX k.l (.slice ao k.l.length co), TabX k.t (.slice ad k.t.ds.length cd) (.slice af k.t.fs.length cf), PsX k.ps (.slice ap k.ps.length cp)]) (fun _ h => h.elim) (th3 (DiskX.firm _ _) ((DiskX.firm _ _).sub hD fun _ h => h.elim) (TabX.firm _ _ _) ((TabX.firm _ _ _).sub hT fun _ h => h.elim) (PsX.firm _ _) ((PsX.firm _ _).sub hP fun _ h => h.elim)))
  have HZ := Lib.hid hz
  have HS := Lib.hid hs
  have HF := Lib.hid hf
  have HPL := Lib.hid hpl
  have hl : k.l.length ≤ 10000 := Nat.le_trans hs.1 (by decide)
  have HL := Lib.hid hl
  have hfl : k.t.fs.length ≤ 20 := hz.2.1
  have hdl : k.t.ds.length ≤ 1000 := hz.1
  clear hD hT hP hz hs hf hl
  go_enter Tryz.func7, Tryz.ntmps7
  go_upto_region 1 with (fail)
  refine code_fresh1 ?_
  intro W1 hb hA0 hs
  have S1 := Lib.hid (S0.out.new1 hb hA0)
  clear hb hA0 hs
  have h_kd := k_disk (S1.out.at 0 rfl)
  have h_kt := k_tab (S1.out.at 0 rfl)
  obtain ⟨-, -, -, -, k4, k5⟩ := cells6 (S1.out.at 0 rfl)
  go_wp2_with (first | (refine wpList_load_mid rfl 37 _ rfl _ 0 rfl _ _ h_kd Tryz.underlying37 rfl (by kernel_rfl) ?_) | (refine wpList_load_midG rfl 37 _ rfl _ 0 rfl _ _ h_kd Tryz.underlying37 rfl (by kernel_rfl) ?_) | (refine wpList_load_mid rfl 40 _ rfl _ 3 rfl _ _ h_kt Tryz.underlying40 rfl (by kernel_rfl) ?_) | (refine wpList_load_midG rfl 40 _ rfl _ 3 rfl _ _ h_kt Tryz.underlying40 rfl (by kernel_rfl) ?_))
  refine (rdright_c k.most k.room (S1.out.g 0 rfl) HS.out HF.out).mono ?_
  rintro e W2 ⟨rfl, hb⟩
  clear h_kd h_kt k4 k5
  have S2 := Lib.hid (S1.out.call hb)
  obtain ⟨r0, hr0⟩ : ∃ r, r = rightR k.l k.most k.room := ⟨_, rfl⟩
  rw [← hr0]
  have HR0 := Lib.hid hr0
  clear hr0
  clear hb
  cases r0 with
  | false =>
    have HO : Hid (rightK k = false) := Lib.hid (by rw [rightK_parts, ← HR0.out, Bool.false_and, Bool.false_and])
    go_wp2_with fail
    go_ret
    exact ⟨by rw [HO.out]; rfl, S2.out.bel⟩
  | true =>
    obtain ⟨-, -, -, k3, k4, k5⟩ := cells6 (S2.out.at 0 rfl)
    go_wp2_with fail
    refine (rrightH_c k.t _ _ _ _ W2 (S2.out.g 1 rfl) HZ.out).mono ?_
    rintro e W3 ⟨rfl, hb⟩
    clear k3 k4 k5
    have S3 := Lib.hid (S2.out.call hb)
    obtain ⟨r1, hr1⟩ : ∃ r, r = rightB k.t := ⟨_, rfl⟩
    rw [← hr1]
    have HR1 := Lib.hid hr1
    clear hr1
    clear hb
    cases r1 with
    | false =>
      have HO : Hid (rightK k = false) := Lib.hid (by rw [rightK_parts, ← HR1.out, Bool.false_and, Bool.and_false, Bool.false_and])
      go_wp2_with fail
      go_ret
      exact ⟨by rw [HO.out]; rfl, S3.out.bel⟩
    | true =>
      obtain ⟨-, -, -, -, k4, k5⟩ := cells6 (S3.out.at 0 rfl)
      by_cases h8 : k.t.fs.length = 8
      rotate_left
      · have e81 : ((k.t.fs.length : Int) == 8) = false := by simpa using (show ¬ (k.t.fs.length : Int) = 8 by omega)
        have e82 : decide ((k.t.fs.length : Int) = 8) = false := decide_eq_false (by omega)
        have e83 : ((k.t.fs.length : Int) != 8) = true := by simpa using (show ¬ (k.t.fs.length : Int) = 8 by omega)
        have e84 : (k.t.fs.length == 8) = false := by simpa using h8
        have e85 : (k.t.fs.length != 8) = true := by simpa using h8
        have H8 := Lib.hid h8
        clear h8
        have HO : Hid (rightK k = false) := Lib.hid (by rw [rightK_parts, decide_eq_false H8.out, Bool.false_and, Bool.and_false, Bool.and_false, Bool.false_and])
        go_wp2_with fail
        go_ret
        exact ⟨by rw [HO.out]; rfl, S3.out.bel⟩
      · have e81 : ((k.t.fs.length : Int) == 8) = true := by simpa using (show (k.t.fs.length : Int) = 8 by omega)
        have e82 : decide ((k.t.fs.length : Int) = 8) = true := decide_eq_true (by omega)
        have e83 : ((k.t.fs.length : Int) != 8) = false := by simpa using (show (k.t.fs.length : Int) = 8 by omega)
        have e84 : (k.t.fs.length == 8) = true := by simpa using h8
        have e85 : (k.t.fs.length != 8) = false := by simpa using h8
        have H8 := Lib.hid h8
        clear h8
        by_cases hp : k.ps.length ≤ 8
        rotate_left
        · have g8 : decide ((8 : Int) < (k.ps.length : Int)) = true := decide_eq_true (by omega)
          have g9 : decide ((k.ps.length : Int) > 8) = true := decide_eq_true (by omega)
          have HP8 := Lib.hid hp
          clear hp
          have HO : Hid (rightK k = false) := Lib.hid (by rw [rightK_parts, decide_eq_false HP8.out, Bool.and_false, Bool.and_false, Bool.and_false, Bool.false_and])
          go_wp2_with fail
          go_ret
          exact ⟨by rw [HO.out]; rfl, S3.out.bel⟩
        · have g8 : decide ((8 : Int) < (k.ps.length : Int)) = false := decide_eq_false (by omega)
          have g9 : decide ((k.ps.length : Int) > 8) = false := decide_eq_false (by omega)
          have HP8 := Lib.hid hp
          clear hp
          have HRT : Hid (RightT k.t) := Lib.hid (right_B.1 HR1.out.symm)
          have HO : Hid (rightK k = ((List.range 8).all (procOk k) && openedB k)) := Lib.hid (by rw [rightK_parts, ← HR0.out, ← HR1.out, decide_eq_true H8.out, decide_eq_true HP8.out]; rfl)
          go_wp2_with fail
          clear k4 k5
          go_loopw [3] (fun i wr => ∃ p : Nat, i = .int .i64 p ∧ p ≤ 8 ∧ Hid (Sf (fun _ => False) w [(w.heap.size, #[.slice ao k.l.length co, .int .i64 k.most, .int .i64 k.room, .slice ad k.t.ds.length cd, .slice af k.t.fs.length cf, .slice ap k.ps.length cp], 43)] [DiskX k.l (.slice ao k.l.length co), TabX k.t (.slice ad k.t.ds.length cd) (.slice af k.t.fs.length cf), PsX k.ps (.slice ap k.ps.length cp)] wr) ∧ Hid (∀ q : Nat, q < p → procOk k q = true)) (fun i _ => 8 - (RowKit.intOf i).toNat)
          case atStart => exact ⟨0, rfl, Nat.zero_le _, S3, Lib.hid (fun q hq => by omega)⟩
          case round =>
            clear S3
            obtain ⟨p, rfl, hp, S20, HPO⟩ := hrel
            by_cases hlt : p < 8
            · have i1 : decide ((p : Int) < (8 : Int)) = true := decide_eq_true (by omega)
              have wp : IntKind.i64.wrap ((p : Int) + 1) = (p : Int) + 1 := Go.IntWalk.i64_in _ (by omega)
              have NOP : Hid (procOk k p = false → rightK k = false) := Lib.hid (fun h => by rw [HO.out, show (List.range 8).all (procOk k) = false from List.all_eq_false.2 ⟨p, List.mem_range.2 hlt, by rw [h]; decide⟩, Bool.false_and])
              have YES : Hid (procOk k p = true → ∀ q : Nat, q < p + 1 → procOk k q = true) := Lib.hid (fun h q hq => by rcases Nat.lt_or_ge q p with h2 | h2; exact HPO.out q h2; obtain rfl : q = p := (by omega); exact h)
              clear HPO
              by_cases hpp : p < k.ps.length
              rotate_left
              · have j1 : decide ((k.ps.length : Int) ≤ (p : Int)) = true := decide_eq_true (by omega)
                have j2 : decide ((p : Int) ≥ (k.ps.length : Int)) = true := j1
                have HLV : Hid (liveB k.ps (p : Int) = false) := Lib.hid (by unfold liveB; rw [decide_eq_false (show ¬ (p : Int) < (k.ps.length : Int) by omega), Bool.false_and, Bool.and_false])
                obtain ⟨-, -, -, -, -, k5⟩ := cells6 (S20.out.at 0 rfl)
                go_upto_region 7 with (fail)
                clear k5
                obtain ⟨n, hn⟩ : ∃ n, n = countT k.t (p : Int) := ⟨_, rfl⟩
                have HNN := Lib.hid hn
                clear hn
                have h_kt := k_tab (S20.out.at 0 rfl)
                go_wp2_with (first | (refine wpList_load_mid rfl 40 _ rfl _ 3 rfl _ _ h_kt Tryz.underlying40 rfl (by kernel_rfl) ?_) | (refine wpList_load_midG rfl 40 _ rfl _ 3 rfl _ _ h_kt Tryz.underlying40 rfl (by kernel_rfl) ?_))
                refine (rcount_c k.t _ _ _ _ wr (S20.out.g 1 rfl) (p : Int) HZ.out).mono ?_
                rintro e W21 ⟨rfl, hb⟩
                clear h_kt
                have S21 := Lib.hid (S20.out.call hb)
                rw [← HNN.out]
                clear hb
                by_cases h0 : 0 < n
                · have g0 : decide ((0 : Int) < (n : Int)) = true := decide_eq_true (by omega)
                  have g1 : decide ((n : Int) > 0) = true := decide_eq_true (by omega)
                  have g2 : decide (0 < n) = true := decide_eq_true h0
                  have HN := Lib.hid (NOP.out (by unfold procOk; rw [if_neg (by rw [HLV.out]; decide), ← HNN.out, decide_eq_false (by omega)]))
                  clear h0
                  go_wp2_with fail
                  go_ret
                  exact ⟨by rw [HN.out]; rfl, S21.out.bel⟩
                · have g0 : decide ((0 : Int) < (n : Int)) = false := decide_eq_false (by omega)
                  have g1 : decide ((n : Int) > 0) = false := decide_eq_false (by omega)
                  have g2 : decide (0 < n) = false := decide_eq_false h0
                  have HY := Lib.hid (YES.out (by unfold procOk; rw [if_neg (by rw [HLV.out]; decide), ← HNN.out, decide_eq_true (by omega)]))
                  clear h0
                  go_wp2_with fail
                  go_roundw
                  case rel => exact ⟨p + 1, by go_num, hlt, S21, HY⟩
                  case measure => simp [RowKit.intOf]; omega
              · have j1 : decide ((k.ps.length : Int) ≤ (p : Int)) = false := decide_eq_false (by omega)
                have j2 : decide ((p : Int) ≥ (k.ps.length : Int)) = false := j1
                have ha := hpp
                obtain ⟨bp, offp, eap, pc0, pc1, pc2, pc3⟩ := PsX.proc (S20.out.g 2 rfl) p ha
                subst eap
                obtain ⟨x, hx⟩ : ∃ x, x = k.ps[p] := ⟨_, rfl⟩
                rw [← hx] at pc0 pc1 pc2 pc3
                have HXP := Lib.hid hx
                obtain ⟨lv, hlv⟩ : ∃ l, l = x.live := ⟨_, rfl⟩
                rw [← hlv] at pc3
                have HLV : Hid (liveB k.ps (p : Int) = lv) := Lib.hid (by rw [(live_at ha).1, ← hx, hlv])
                have a0 : (0 : Int) ≤ (p : Int) := by omega
                have a1 : (p : Int) < (k.ps.length : Int) := by omega
                clear hx hlv
                obtain ⟨-, -, -, -, -, k5⟩ := cells6 (S20.out.at 0 rfl)
                cases lv with
                | false =>
                  go_upto_region 7 with (fail)
                  clear k5
                  clear pc0 pc1 pc2 pc3
                  obtain ⟨n, hn⟩ : ∃ n, n = countT k.t (p : Int) := ⟨_, rfl⟩
                  have HNN := Lib.hid hn
                  clear hn
                  have h_kt := k_tab (S20.out.at 0 rfl)
                  go_wp2_with (first | (refine wpList_load_mid rfl 40 _ rfl _ 3 rfl _ _ h_kt Tryz.underlying40 rfl (by kernel_rfl) ?_) | (refine wpList_load_midG rfl 40 _ rfl _ 3 rfl _ _ h_kt Tryz.underlying40 rfl (by kernel_rfl) ?_))
                  refine (rcount_c k.t _ _ _ _ wr (S20.out.g 1 rfl) (p : Int) HZ.out).mono ?_
                  rintro e W21 ⟨rfl, hb⟩
                  clear h_kt
                  have S21 := Lib.hid (S20.out.call hb)
                  rw [← HNN.out]
                  clear hb
                  by_cases h0 : 0 < n
                  · have g0 : decide ((0 : Int) < (n : Int)) = true := decide_eq_true (by omega)
                    have g1 : decide ((n : Int) > 0) = true := decide_eq_true (by omega)
                    have g2 : decide (0 < n) = true := decide_eq_true h0
                    have HN := Lib.hid (NOP.out (by unfold procOk; rw [if_neg (by rw [HLV.out]; decide), ← HNN.out, decide_eq_false (by omega)]))
                    clear h0
                    go_wp2_with fail
                    go_ret
                    exact ⟨by rw [HN.out]; rfl, S21.out.bel⟩
                  · have g0 : decide ((0 : Int) < (n : Int)) = false := decide_eq_false (by omega)
                    have g1 : decide ((n : Int) > 0) = false := decide_eq_false (by omega)
                    have g2 : decide (0 < n) = false := decide_eq_false h0
                    have HY := Lib.hid (YES.out (by unfold procOk; rw [if_neg (by rw [HLV.out]; decide), ← HNN.out, decide_eq_true (by omega)]))
                    clear h0
                    go_wp2_with fail
                    go_roundw
                    case rel => exact ⟨p + 1, by go_num, hlt, S21, HY⟩
                    case measure => simp [RowKit.intOf]; omega
                | true =>
                  have HO2 : Hid (procOk k p = (decide ((nodeL k.l x.cwd).kind = 2) && (decide (0 ≤ x.umask) && decide (x.umask ≤ 63)))) := Lib.hid (by unfold procOk; rw [if_pos HLV.out, (live_at ha).2, ← HXP.out])
                  go_upto_region 9 with (fail)
                  clear k5
                  clear pc0 pc1 pc2 pc3
                  obtain ⟨n, hnn⟩ : ∃ n, n = nodeL k.l x.cwd := ⟨_, rfl⟩
                  obtain ⟨gb, hg⟩ : ∃ g, g = gotB k.l x.cwd := ⟨_, rfl⟩
                  have HNN := Lib.hid hnn
                  have HG := Lib.hid hg
                  clear hnn hg
                  go_cut [4] (fun s4 wx => ∃ bn aon cpn, s4 = .pointer (some ⟨bn, 0, none⟩) ∧ Hid (Sf (fun _ => False) w [(w.heap.size, #[.slice ao k.l.length co, .int .i64 k.most, .int .i64 k.room, .slice ad k.t.ds.length cd, .slice af k.t.fs.length cf, .slice (some ⟨bp, offp, none⟩) k.ps.length cp], 43), (bn, #[.int .i64 n.kind, .int .i64 n.mode, .int .i64 n.owner, .int .i64 n.links, .int .i64 n.opn, .int .i64 n.up, .string (bs n.data), .slice aon n.names.length cpn], 70)] [DiskX k.l (.slice ao k.l.length co), TabX k.t (.slice ad k.t.ds.length cd) (.slice af k.t.fs.length cf), PsX k.ps (.slice (some ⟨bp, offp, none⟩) k.ps.length cp)] wx))
                  case first =>
                    have h_k := (S20.out.at 0 rfl)
                    refine wp_region_held_drew (S := fun W => W.heap[w.heap.size]? = some (.cells #[.slice ao k.l.length co, .int .i64 k.most, .int .i64 k.room, .slice ad k.t.ds.length cd, .slice af k.t.fs.length cf, .slice (some ⟨bp, offp, none⟩) k.ps.length cp] 43 (0, 0)) ∧ W.rangeAt w.heap.size 0 [.slice ao k.l.length co, .int .i64 k.most, .int .i64 k.room] ∧ PsX k.ps (.slice (some ⟨bp, offp, none⟩) k.ps.length cp) (fun _ => False) W ∧ True) (by kernel_rfl) ⟨(S20.out.at 0 rfl), k_disk (S20.out.at 0 rfl), ((PsX.firm _ _).sub (S20.out.g 2 rfl) fun _ h => h.elim), trivial⟩ (fun hHeld => ?_)
                    clear h_k
                    have S21 := Lib.hid (S20.out.call (Below.refl wr.heap.size wr).drew)
                    generalize wr.drew = W21 at *
                    refine wpAnyH_take (i := 0) (v := ?v1) rfl (by kernel_rfl) (by kernel_rfl) (by kernel_rfl) (fun _ _ _ h => h) (Or.inl ⟨by rfl, ?hy1⟩) hHeld ?rest1
                    case hy1 => (intro w hSw; (try dsimp only at hSw); (try go_split_ands); go_simp; first | done | with_reducible rfl)
                    (try simp only [List.getElem_toArray]); (try simp only [List.getElem_cons_succ]); (try simp only [List.getElem_cons_zero]); (try simp only [Act.put]); (try simp only [List.setIfInBounds_toArray]); (try simp only [List.set_cons_succ]); (try simp only [List.set_cons_zero])
                    refine wpAnyH_take (i := 1) rfl (by kernel_rfl) (by kernel_rfl) (by kernel_rfl) (fun _ _ _ h => h) (yieldsIf_load_mid (by rfl) 37 _ rfl _ 0 rfl _ _ (fun _ h => h.2.1) Tryz.underlying37 rfl (by kernel_rfl)) hHeld ?_
                    (try simp only [List.getElem_toArray]); (try simp only [List.getElem_cons_succ]); (try simp only [List.getElem_cons_zero]); (try simp only [Act.put]); (try simp only [List.setIfInBounds_toArray]); (try simp only [List.set_cons_succ]); (try simp only [List.set_cons_zero])
                    refine wpAnyH_take (i := 2) (v := ?v2) rfl (by kernel_rfl) (by kernel_rfl) (by kernel_rfl) (fun _ _ _ h => h) (Or.inl ⟨by rfl, ?hy2⟩) hHeld ?rest2
                    case hy2 => (intro w hSw; (try dsimp only at hSw); (try go_split_ands); go_simp; first | done | with_reducible rfl)
                    (try simp only [List.getElem_toArray]); (try simp only [List.getElem_cons_succ]); (try simp only [List.getElem_cons_zero]); (try simp only [Act.put]); (try simp only [List.setIfInBounds_toArray]); (try simp only [List.set_cons_succ]); (try simp only [List.set_cons_zero])
                    refine wpAnyH_take (i := 3) (v := ?v3) rfl (by kernel_rfl) (by kernel_rfl) (by kernel_rfl) (fun _ _ _ h => h) (Or.inl ⟨by rfl, ?hy3⟩) hHeld ?rest3
                    case hy3 => (intro w hSw; (try dsimp only at hSw); have hcc := (cells6 hSw.1).2.2.2.2.2; (try go_split_ands); go_simp; first | done | with_reducible rfl)
                    (try simp only [List.getElem_toArray]); (try simp only [List.getElem_cons_succ]); (try simp only [List.getElem_cons_zero]); (try simp only [Act.put]); (try simp only [List.setIfInBounds_toArray]); (try simp only [List.set_cons_succ]); (try simp only [List.set_cons_zero])
                    refine wpAnyH_take (i := 4) (v := ?v4) rfl (by kernel_rfl) (by kernel_rfl) (by kernel_rfl) (fun _ _ _ h => h) (Or.inl ⟨by rfl, ?hy4⟩) hHeld ?rest4
                    case hy4 => (intro w hSw; (try dsimp only at hSw); (try go_split_ands); go_simp; first | done | with_reducible rfl)
                    (try simp only [List.getElem_toArray]); (try simp only [List.getElem_cons_succ]); (try simp only [List.getElem_cons_zero]); (try simp only [Act.put]); (try simp only [List.setIfInBounds_toArray]); (try simp only [List.set_cons_succ]); (try simp only [List.set_cons_zero])
                    refine wpAnyH_take (i := 5) (v := ?v5) rfl (by kernel_rfl) (by kernel_rfl) (by kernel_rfl) (fun _ _ _ h => h) (Or.inl ⟨by rfl, ?hy5⟩) hHeld ?rest5
                    case hy5 => (intro w hSw; (try dsimp only at hSw); (try go_split_ands); go_simp; first | done | with_reducible rfl)
                    (try simp only [List.getElem_toArray]); (try simp only [List.getElem_cons_succ]); (try simp only [List.getElem_cons_zero]); (try simp only [Act.put]); (try simp only [List.setIfInBounds_toArray]); (try simp only [List.set_cons_succ]); (try simp only [List.set_cons_zero])
                    refine wpAnyH_take (i := 6) (v := ?v6) rfl (by kernel_rfl) (by kernel_rfl) (by kernel_rfl) (fun _ _ _ h => h) (Or.inl ⟨by rfl, ?hy6⟩) hHeld ?rest6
                    case hy6 => (intro w hSw; (try dsimp only at hSw); (try go_split_ands); go_simp; first | done | with_reducible rfl)
                    (try simp only [List.getElem_toArray]); (try simp only [List.getElem_cons_succ]); (try simp only [List.getElem_cons_zero]); (try simp only [Act.put]); (try simp only [List.setIfInBounds_toArray]); (try simp only [List.set_cons_succ]); (try simp only [List.set_cons_zero])
                    refine wpAnyH_take (i := 7) (v := ?v7) rfl (by kernel_rfl) (by kernel_rfl) (by kernel_rfl) (fun _ _ _ h => h) (Or.inl ⟨by rfl, ?hy7⟩) hHeld ?rest7
                    case hy7 => (intro w hSw; (try dsimp only at hSw); have hcc := PsX.c2 hSw.2.2.1 p ha; rw [← HXP.out] at hcc; (try go_split_ands); go_simp; first | done | with_reducible rfl)
                    (try simp only [List.getElem_toArray]); (try simp only [List.getElem_cons_succ]); (try simp only [List.getElem_cons_zero]); (try simp only [Act.put]); (try simp only [List.setIfInBounds_toArray]); (try simp only [List.set_cons_succ]); (try simp only [List.set_cons_zero])
                    refine wpAnyH_ready (rs := [8, 12]) (by kernel_rfl) (by simp) ?_
                    refine AllReadyH.cons rfl (fun K hK => ?_) (AllReadyH.cons rfl (fun K hK => ?_) AllReadyH.nil)
                    · skip
                      go_simp
                      refine (rget_g _ k.l k.most k.room x.cwd _ W21 (S21.out.g 0 rfl) HL.out).mono ?_
                      rintro e W22 ⟨aon, cpn, rfl, hn, hb⟩
                      have S22 := Lib.hid (S21.out.call hb)
                      clear hn
                      rw [← HNN.out, ← HG.out]
                      clear hb hHeld
                      go_wp2_with fail
                      refine hK.out _ _ ⟨(S22.out.at 0 rfl), k_disk (S22.out.at 0 rfl), ((PsX.firm _ _).sub (S22.out.g 2 rfl) fun _ h => h.elim), trivial⟩ (fun hHeld => ?_)
                      clear hK K
                      (try simp only [List.getElem_toArray]); (try simp only [List.getElem_cons_succ]); (try simp only [List.getElem_cons_zero]); (try simp only [Act.put]); (try simp only [List.setIfInBounds_toArray]); (try simp only [List.set_cons_succ]); (try simp only [List.set_cons_zero])
                      refine wpAnyH_take (i := 9) (v := ?v8) rfl (by kernel_rfl) (by kernel_rfl) (by kernel_rfl) (fun _ _ _ h => h) (Or.inl ⟨by rfl, ?hy8⟩) hHeld ?rest8
                      case hy8 => (intro w hSw; (try dsimp only at hSw); (try go_split_ands); go_simp; first | done | with_reducible rfl)
                      (try simp only [List.getElem_toArray]); (try simp only [List.getElem_cons_succ]); (try simp only [List.getElem_cons_zero]); (try simp only [Act.put]); (try simp only [List.setIfInBounds_toArray]); (try simp only [List.set_cons_succ]); (try simp only [List.set_cons_zero])
                      refine wpAnyH_take (i := 10) (v := ?v9) rfl (by kernel_rfl) (by kernel_rfl) (by kernel_rfl) (fun _ _ _ h => h) (Or.inl ⟨by rfl, ?hy9⟩) hHeld ?rest9
                      case hy9 => (intro w hSw; (try dsimp only at hSw); (try go_split_ands); go_simp; first | done | with_reducible rfl)
                      (try simp only [List.getElem_toArray]); (try simp only [List.getElem_cons_succ]); (try simp only [List.getElem_cons_zero]); (try simp only [Act.put]); (try simp only [List.setIfInBounds_toArray]); (try simp only [List.set_cons_succ]); (try simp only [List.set_cons_zero])
                      refine wpAnyH_take (i := 11) (v := ?v10) rfl (by kernel_rfl) (by kernel_rfl) (by kernel_rfl) (fun _ _ _ h => h) (Or.inl ⟨by rfl, ?hy10⟩) hHeld ?rest10
                      case hy10 => (intro w hSw; (try dsimp only at hSw); (try go_split_ands); go_simp; first | done | with_reducible rfl)
                      (try simp only [List.getElem_toArray]); (try simp only [List.getElem_cons_succ]); (try simp only [List.getElem_cons_zero]); (try simp only [Act.put]); (try simp only [List.setIfInBounds_toArray]); (try simp only [List.set_cons_succ]); (try simp only [List.set_cons_zero])
                      refine wpAnyH_ready (rs := [12]) (by kernel_rfl) (by simp) ?_
                      refine AllReadyH.cons rfl (fun K hK => ?_) AllReadyH.nil
                      go_simp
                      refine fresh1 (P := fun W => K _ W) ?_
                      intro W23 hb hn hs
                      have S23 := Lib.hid (S22.out.new1 hb hn)
                      clear hb hn hs hHeld
                      refine hK.out _ _ ⟨(S23.out.at 0 rfl), k_disk (S23.out.at 0 rfl), ((PsX.firm _ _).sub (S23.out.g 2 rfl) fun _ h => h.elim), trivial⟩ (fun hHeld => ?_)
                      clear hK K
                      (try simp only [List.getElem_toArray]); (try simp only [List.getElem_cons_succ]); (try simp only [List.getElem_cons_zero]); (try simp only [Act.put]); (try simp only [List.setIfInBounds_toArray]); (try simp only [List.set_cons_succ]); (try simp only [List.set_cons_zero])
                      refine wpAnyH_ready (rs := [13]) (by kernel_rfl) (by simp) ?_
                      refine AllReadyH.cons rfl (fun K hK => ?_) AllReadyH.nil
                      rw [if_pos (by rfl)]
                      refine wp_store_row 70 _ _ rfl _ rfl rfl (S23.out.at 1 rfl) rfl (by kernel_rfl) rfl ?_
                      intro W24 hb hg hs hn
                      have S24 := Lib.hid (S23.out.set 1 rfl hb hg hs hn)
                      clear hb hg hs hn hHeld
                      refine hK.out _ _ ⟨(S24.out.at 0 rfl), k_disk (S24.out.at 0 rfl), ((PsX.firm _ _).sub (S24.out.g 2 rfl) fun _ h => h.elim), trivial⟩ (fun hHeld => ?_)
                      clear hK K
                      (try simp only [List.getElem_toArray]); (try simp only [List.getElem_cons_succ]); (try simp only [List.getElem_cons_zero]); (try simp only [Act.put]); (try simp only [List.setIfInBounds_toArray]); (try simp only [List.set_cons_succ]); (try simp only [List.set_cons_zero])
                      refine wpAnyH_take (i := 14) (v := ?v11) rfl (by kernel_rfl) (by kernel_rfl) (by kernel_rfl) (fun _ _ _ h => h) (Or.inl ⟨by rfl, ?hy11⟩) hHeld ?rest11
                      case hy11 => (intro w hSw; (try dsimp only at hSw); (try go_split_ands); go_simp; first | done | with_reducible rfl)
                      (try simp only [List.getElem_toArray]); (try simp only [List.getElem_cons_succ]); (try simp only [List.getElem_cons_zero]); (try simp only [Act.put]); (try simp only [List.setIfInBounds_toArray]); (try simp only [List.set_cons_succ]); (try simp only [List.set_cons_zero])
                      refine wpAnyH_done (by kernel_rfl) ?_ _
                      go_wp2_with fail
                      go_meet
                      exact ⟨_, _, _, rfl, S24⟩
                    · skip
                      go_simp
                      refine fresh1 (P := fun W => K _ W) ?_
                      intro W22 hb hn hs
                      have S22 := Lib.hid (S21.out.new1 hb hn)
                      clear hb hn hs hHeld
                      refine hK.out _ _ ⟨(S22.out.at 0 rfl), k_disk (S22.out.at 0 rfl), ((PsX.firm _ _).sub (S22.out.g 2 rfl) fun _ h => h.elim), trivial⟩ (fun hHeld => ?_)
                      clear hK K
                      (try simp only [List.getElem_toArray]); (try simp only [List.getElem_cons_succ]); (try simp only [List.getElem_cons_zero]); (try simp only [Act.put]); (try simp only [List.setIfInBounds_toArray]); (try simp only [List.set_cons_succ]); (try simp only [List.set_cons_zero])
                      refine wpAnyH_ready (rs := [8]) (by kernel_rfl) (by simp) ?_
                      refine AllReadyH.cons rfl (fun K hK => ?_) AllReadyH.nil
                      go_simp
                      refine (rget_g _ k.l k.most k.room x.cwd _ W22 (S22.out.g 0 rfl) HL.out).mono ?_
                      rintro e W23 ⟨aon, cpn, rfl, hn, hb⟩
                      have S23 := Lib.hid (S22.out.call hb)
                      clear hn
                      rw [← HNN.out, ← HG.out]
                      clear hb hHeld
                      go_wp2_with fail
                      refine hK.out _ _ ⟨(S23.out.at 0 rfl), k_disk (S23.out.at 0 rfl), ((PsX.firm _ _).sub (S23.out.g 2 rfl) fun _ h => h.elim), trivial⟩ (fun hHeld => ?_)
                      clear hK K
                      (try simp only [List.getElem_toArray]); (try simp only [List.getElem_cons_succ]); (try simp only [List.getElem_cons_zero]); (try simp only [Act.put]); (try simp only [List.setIfInBounds_toArray]); (try simp only [List.set_cons_succ]); (try simp only [List.set_cons_zero])
                      refine wpAnyH_take (i := 9) (v := ?v12) rfl (by kernel_rfl) (by kernel_rfl) (by kernel_rfl) (fun _ _ _ h => h) (Or.inl ⟨by rfl, ?hy12⟩) hHeld ?rest12
                      case hy12 => (intro w hSw; (try dsimp only at hSw); (try go_split_ands); go_simp; first | done | with_reducible rfl)
                      (try simp only [List.getElem_toArray]); (try simp only [List.getElem_cons_succ]); (try simp only [List.getElem_cons_zero]); (try simp only [Act.put]); (try simp only [List.setIfInBounds_toArray]); (try simp only [List.set_cons_succ]); (try simp only [List.set_cons_zero])
                      refine wpAnyH_take (i := 10) (v := ?v13) rfl (by kernel_rfl) (by kernel_rfl) (by kernel_rfl) (fun _ _ _ h => h) (Or.inl ⟨by rfl, ?hy13⟩) hHeld ?rest13
                      case hy13 => (intro w hSw; (try dsimp only at hSw); (try go_split_ands); go_simp; first | done | with_reducible rfl)
                      (try simp only [List.getElem_toArray]); (try simp only [List.getElem_cons_succ]); (try simp only [List.getElem_cons_zero]); (try simp only [Act.put]); (try simp only [List.setIfInBounds_toArray]); (try simp only [List.set_cons_succ]); (try simp only [List.set_cons_zero])
                      refine wpAnyH_take (i := 11) (v := ?v14) rfl (by kernel_rfl) (by kernel_rfl) (by kernel_rfl) (fun _ _ _ h => h) (Or.inl ⟨by rfl, ?hy14⟩) hHeld ?rest14
                      case hy14 => (intro w hSw; (try dsimp only at hSw); (try go_split_ands); go_simp; first | done | with_reducible rfl)
                      (try simp only [List.getElem_toArray]); (try simp only [List.getElem_cons_succ]); (try simp only [List.getElem_cons_zero]); (try simp only [Act.put]); (try simp only [List.setIfInBounds_toArray]); (try simp only [List.set_cons_succ]); (try simp only [List.set_cons_zero])
                      refine wpAnyH_ready (rs := [13]) (by kernel_rfl) (by simp) ?_
                      refine AllReadyH.cons rfl (fun K hK => ?_) AllReadyH.nil
                      rw [if_pos (by rfl)]
                      refine wp_store_row 70 _ _ rfl _ rfl rfl (S23.out.at 1 rfl) rfl (by kernel_rfl) rfl ?_
                      intro W24 hb hg hs hn
                      have S24 := Lib.hid (S23.out.set 1 rfl hb hg hs hn)
                      clear hb hg hs hn hHeld
                      refine hK.out _ _ ⟨(S24.out.at 0 rfl), k_disk (S24.out.at 0 rfl), ((PsX.firm _ _).sub (S24.out.g 2 rfl) fun _ h => h.elim), trivial⟩ (fun hHeld => ?_)
                      clear hK K
                      (try simp only [List.getElem_toArray]); (try simp only [List.getElem_cons_succ]); (try simp only [List.getElem_cons_zero]); (try simp only [Act.put]); (try simp only [List.setIfInBounds_toArray]); (try simp only [List.set_cons_succ]); (try simp only [List.set_cons_zero])
                      refine wpAnyH_take (i := 14) (v := ?v15) rfl (by kernel_rfl) (by kernel_rfl) (by kernel_rfl) (fun _ _ _ h => h) (Or.inl ⟨by rfl, ?hy15⟩) hHeld ?rest15
                      case hy15 => (intro w hSw; (try dsimp only at hSw); (try go_split_ands); go_simp; first | done | with_reducible rfl)
                      (try simp only [List.getElem_toArray]); (try simp only [List.getElem_cons_succ]); (try simp only [List.getElem_cons_zero]); (try simp only [Act.put]); (try simp only [List.setIfInBounds_toArray]); (try simp only [List.set_cons_succ]); (try simp only [List.set_cons_zero])
                      refine wpAnyH_done (by kernel_rfl) ?_ _
                      go_wp2_with fail
                      go_meet
                      exact ⟨_, _, _, rfl, S24⟩
                  case rest =>
                    obtain ⟨bn, aon, cpn, rfl, S21⟩ := hcut
                    generalize wc = W21 at *
                    obtain ⟨bp2, offp2, eap2, -, pc1, -, -⟩ := PsX.proc (S21.out.g 2 rfl) p ha
                    injection eap2 with eap2
                    injection eap2 with ebp eop _
                    subst ebp
                    subst eop
                    rw [← HXP.out] at pc1
                    obtain ⟨-, -, -, -, -, k5⟩ := cells6 (S21.out.at 0 rfl)
                    obtain ⟨n0, -, -, -, -, -, -, -⟩ := cells8 (S21.out.at 1 rfl)
                    by_cases h2 : n.kind = 2
                    rotate_left
                    · have i21 : (n.kind == 2) = false := by simpa using h2
                      have i22 : decide (n.kind = 2) = false := decide_eq_false h2
                      have i23 : (n.kind != 2) = true := by simpa using h2
                      have HN := Lib.hid (NOP.out (by rw [HO2.out, ← HNN.out, i22]; rfl))
                      clear h2
                      go_wp2_with fail
                      go_ret
                      exact ⟨by rw [HN.out]; rfl, S21.out.bel⟩
                    · have i21 : (n.kind == 2) = true := by simpa using h2
                      have i22 : decide (n.kind = 2) = true := decide_eq_true h2
                      have i23 : (n.kind != 2) = false := by simpa using h2
                      clear h2
                      by_cases u0 : x.umask < 0
                      · have i3 : decide (x.umask < 0) = true := decide_eq_true u0
                        have HN := Lib.hid (NOP.out (by rw [HO2.out, ← HNN.out, i22, decide_eq_false (show ¬ 0 ≤ x.umask by omega)]; rfl))
                        clear u0
                        go_wp2_with fail
                        go_ret
                        exact ⟨by rw [HN.out]; rfl, S21.out.bel⟩
                      · have i3 : decide (x.umask < 0) = false := decide_eq_false u0
                        by_cases u1 : 63 < x.umask
                        · have i4 : decide (63 < x.umask) = true := decide_eq_true u1
                          have i5 : decide (x.umask > 63) = true := i4
                          have HN := Lib.hid (NOP.out (by rw [HO2.out, ← HNN.out, i22, decide_eq_false (show ¬ x.umask ≤ 63 by omega), Bool.and_false]; rfl))
                          clear u0 u1
                          go_wp2_with fail
                          go_ret
                          exact ⟨by rw [HN.out]; rfl, S21.out.bel⟩
                        · have i4 : decide (63 < x.umask) = false := decide_eq_false u1
                          have i5 : decide (x.umask > 63) = false := i4
                          have HY := Lib.hid (YES.out (by rw [HO2.out, ← HNN.out, i22, decide_eq_true (show 0 ≤ x.umask by omega), decide_eq_true (show x.umask ≤ 63 by omega)]; rfl))
                          clear u0 u1
                          go_wp2_with fail
                          go_roundw
                          case rel => exact ⟨p + 1, by go_num, hlt, Lib.hid (S21.out.leave (by simp)), HY⟩
                          case measure => simp [RowKit.intOf]; omega
            · have i1 : decide ((p : Int) < (8 : Int)) = false := decide_eq_false (by omega)
              have HO2 : Hid (rightK k = openedB k) := Lib.hid (by rw [HO.out, show (List.range 8).all (procOk k) = true from List.all_eq_true.2 fun q hq => HPO.out q (by have := List.mem_range.1 hq; omega), Bool.true_and])
              clear hlt
              go_wp2_with fail
              go_loopw [6] (fun i wr => ∃ j : Nat, i = .int .i64 j ∧ j ≤ k.t.ds.length ∧ Hid (Sf (fun _ => False) w [(w.heap.size, #[.slice ao k.l.length co, .int .i64 k.most, .int .i64 k.room, .slice ad k.t.ds.length cd, .slice af k.t.fs.length cf, .slice ap k.ps.length cp], 43)] [DiskX k.l (.slice ao k.l.length co), TabX k.t (.slice ad k.t.ds.length cd) (.slice af k.t.fs.length cf), PsX k.ps (.slice ap k.ps.length cp)] wr) ∧ Hid (∀ d ∈ k.t.ds.take j, descGot k d = true)) (fun i _ => k.t.ds.length - (RowKit.intOf i).toNat)
              case atStart => exact ⟨0, rfl, Nat.zero_le _, S20, Lib.hid (fun d hd => by cases hd)⟩
              case round =>
                clear S20
                obtain ⟨j, rfl, hj, S30, HDG⟩ := hrel
                by_cases hlt : j < k.t.ds.length
                · have iL2 : decide (j < k.t.ds.length) = true := decide_eq_true (by omega)
                  have iM2 : decide ((j : Int) < (k.t.ds.length : Int)) = true := decide_eq_true (by omega)
                  have j0 : (0 : Int) ≤ (j : Int) := by omega
                  have j1 : (j : Int) < (k.t.ds.length : Int) := by omega
                  have wj : IntKind.i64.wrap ((j : Int) + 1) = (j : Int) + 1 := Go.IntWalk.i64_in _ (by omega)
                  obtain ⟨b5, off5, e5, cD⟩ := TabX.range (S30.out.g 1 rfl) j hlt
                  subst e5
                  obtain ⟨y, hy⟩ : ∃ y, y = k.t.ds[j] := ⟨_, rfl⟩
                  have HY := Lib.hid hy
                  clear hy cD
                  obtain ⟨-, -, -, k3, -, -⟩ := cells6 (S30.out.at 0 rfl)
                  go_upto_region 15 with (fail)
                  clear k3
                  obtain ⟨n, hnn⟩ : ∃ n, n = nodeL k.l y.ino := ⟨_, rfl⟩
                  obtain ⟨gb, hg⟩ : ∃ g, g = gotB k.l y.ino := ⟨_, rfl⟩
                  have HNN := Lib.hid hnn
                  have HG := Lib.hid hg
                  clear hnn hg
                  go_cut [8] (fun s8 wx => s8 = .bool gb ∧ Hid (Sf (fun _ => False) w [(w.heap.size, #[.slice ao k.l.length co, .int .i64 k.most, .int .i64 k.room, .slice (some ⟨b5, off5, none⟩) k.t.ds.length cd, .slice af k.t.fs.length cf, .slice ap k.ps.length cp], 43)] [DiskX k.l (.slice ao k.l.length co), TabX k.t (.slice (some ⟨b5, off5, none⟩) k.t.ds.length cd) (.slice af k.t.fs.length cf), PsX k.ps (.slice ap k.ps.length cp)] wx))
                  case first =>
                    have h_k := (S30.out.at 0 rfl)
                    refine wp_region_held_drew (S := fun W => W.heap[w.heap.size]? = some (.cells #[.slice ao k.l.length co, .int .i64 k.most, .int .i64 k.room, .slice (some ⟨b5, off5, none⟩) k.t.ds.length cd, .slice af k.t.fs.length cf, .slice ap k.ps.length cp] 43 (0, 0)) ∧ W.rangeAt w.heap.size 0 [.slice ao k.l.length co, .int .i64 k.most, .int .i64 k.room] ∧ TabX k.t (.slice (some ⟨b5, off5, none⟩) k.t.ds.length cd) (.slice af k.t.fs.length cf) (fun _ => False) W ∧ True) (by kernel_rfl) ⟨(S30.out.at 0 rfl), k_disk (S30.out.at 0 rfl), ((TabX.firm _ _ _).sub (S30.out.g 1 rfl) fun _ h => h.elim), trivial⟩ (fun hHeld => ?_)
                    clear h_k
                    have S31 := Lib.hid (S30.out.call (Below.refl wr.heap.size wr).drew)
                    generalize wr.drew = W31 at *
                    refine wpAnyH_take (i := 0) (v := ?v16) rfl (by kernel_rfl) (by kernel_rfl) (by kernel_rfl) (fun _ _ _ h => h) (Or.inl ⟨by rfl, ?hy16⟩) hHeld ?rest16
                    case hy16 => (intro w hSw; (try dsimp only at hSw); (try go_split_ands); go_simp; first | done | with_reducible rfl)
                    (try simp only [List.getElem_toArray]); (try simp only [List.getElem_cons_succ]); (try simp only [List.getElem_cons_zero]); (try simp only [Act.put]); (try simp only [List.setIfInBounds_toArray]); (try simp only [List.set_cons_succ]); (try simp only [List.set_cons_zero])
                    refine wpAnyH_take (i := 1) rfl (by kernel_rfl) (by kernel_rfl) (by kernel_rfl) (fun _ _ _ h => h) (yieldsIf_load_mid (by rfl) 37 _ rfl _ 0 rfl _ _ (fun _ h => h.2.1) Tryz.underlying37 rfl (by kernel_rfl)) hHeld ?_
                    (try simp only [List.getElem_toArray]); (try simp only [List.getElem_cons_succ]); (try simp only [List.getElem_cons_zero]); (try simp only [Act.put]); (try simp only [List.setIfInBounds_toArray]); (try simp only [List.set_cons_succ]); (try simp only [List.set_cons_zero])
                    refine wpAnyH_take (i := 2) (v := ?v17) rfl (by kernel_rfl) (by kernel_rfl) (by kernel_rfl) (fun _ _ _ h => h) (Or.inl ⟨by rfl, ?hy17⟩) hHeld ?rest17
                    case hy17 => (intro w hSw; (try dsimp only at hSw); (try go_split_ands); go_simp; first | done | with_reducible rfl)
                    (try simp only [List.getElem_toArray]); (try simp only [List.getElem_cons_succ]); (try simp only [List.getElem_cons_zero]); (try simp only [Act.put]); (try simp only [List.setIfInBounds_toArray]); (try simp only [List.set_cons_succ]); (try simp only [List.set_cons_zero])
                    refine wpAnyH_take (i := 3) (v := ?v18) rfl (by kernel_rfl) (by kernel_rfl) (by kernel_rfl) (fun _ _ _ h => h) (Or.inl ⟨by rfl, ?hy18⟩) hHeld ?rest18
                    case hy18 => (intro w hSw; (try dsimp only at hSw); (try go_split_ands); go_simp; first | done | with_reducible rfl)
                    (try simp only [List.getElem_toArray]); (try simp only [List.getElem_cons_succ]); (try simp only [List.getElem_cons_zero]); (try simp only [Act.put]); (try simp only [List.setIfInBounds_toArray]); (try simp only [List.set_cons_succ]); (try simp only [List.set_cons_zero])
                    refine wpAnyH_take (i := 4) (v := ?v19) rfl (by kernel_rfl) (by kernel_rfl) (by kernel_rfl) (fun _ _ _ h => h) (Or.inl ⟨by rfl, ?hy19⟩) hHeld ?rest19
                    case hy19 => (intro w hSw; (try dsimp only at hSw); have hcc := (cells6 hSw.1).2.2.2.1; (try go_split_ands); go_simp; first | done | with_reducible rfl)
                    (try simp only [List.getElem_toArray]); (try simp only [List.getElem_cons_succ]); (try simp only [List.getElem_cons_zero]); (try simp only [Act.put]); (try simp only [List.setIfInBounds_toArray]); (try simp only [List.set_cons_succ]); (try simp only [List.set_cons_zero])
                    refine wpAnyH_take (i := 5) (v := ?v20) rfl (by kernel_rfl) (by kernel_rfl) (by kernel_rfl) (fun _ _ _ h => h) (Or.inl ⟨by rfl, ?hy20⟩) hHeld ?rest20
                    case hy20 => (intro w hSw; (try dsimp only at hSw); (try go_split_ands); go_simp; first | done | with_reducible rfl)
                    (try simp only [List.getElem_toArray]); (try simp only [List.getElem_cons_succ]); (try simp only [List.getElem_cons_zero]); (try simp only [Act.put]); (try simp only [List.setIfInBounds_toArray]); (try simp only [List.set_cons_succ]); (try simp only [List.set_cons_zero])
                    refine wpAnyH_take (i := 6) (v := ?v21) rfl (by kernel_rfl) (by kernel_rfl) (by kernel_rfl) (fun _ _ _ h => h) (Or.inl ⟨by rfl, ?hy21⟩) hHeld ?rest21
                    case hy21 => (intro w hSw; (try dsimp only at hSw); (try go_split_ands); go_simp; first | done | with_reducible rfl)
                    (try simp only [List.getElem_toArray]); (try simp only [List.getElem_cons_succ]); (try simp only [List.getElem_cons_zero]); (try simp only [Act.put]); (try simp only [List.setIfInBounds_toArray]); (try simp only [List.set_cons_succ]); (try simp only [List.set_cons_zero])
                    refine wpAnyH_take (i := 7) (v := ?v22) rfl (by kernel_rfl) (by kernel_rfl) (by kernel_rfl) (fun _ _ _ h => h) (Or.inl ⟨by rfl, ?hy22⟩) hHeld ?rest22
                    case hy22 => (intro w hSw; (try dsimp only at hSw); (try go_split_ands); go_simp; first | done | with_reducible rfl)
                    (try simp only [List.getElem_toArray]); (try simp only [List.getElem_cons_succ]); (try simp only [List.getElem_cons_zero]); (try simp only [Act.put]); (try simp only [List.setIfInBounds_toArray]); (try simp only [List.set_cons_succ]); (try simp only [List.set_cons_zero])
                    refine wpAnyH_take (i := 8) (v := ?v23) rfl (by kernel_rfl) (by kernel_rfl) (by kernel_rfl) (fun _ _ _ h => h) (Or.inl ⟨by rfl, ?hy23⟩) hHeld ?rest23
                    case hy23 => (intro w hSw; (try dsimp only at hSw); have hcc := desc_ino hSw.2.2.1 hlt; rw [← HY.out] at hcc; (try go_split_ands); go_simp; first | done | with_reducible rfl)
                    (try simp only [List.getElem_toArray]); (try simp only [List.getElem_cons_succ]); (try simp only [List.getElem_cons_zero]); (try simp only [Act.put]); (try simp only [List.setIfInBounds_toArray]); (try simp only [List.set_cons_succ]); (try simp only [List.set_cons_zero])
                    refine wpAnyH_ready (rs := [9, 13]) (by kernel_rfl) (by simp) ?_
                    refine AllReadyH.cons rfl (fun K hK => ?_) (AllReadyH.cons rfl (fun K hK => ?_) AllReadyH.nil)
                    · skip
                      go_simp
                      refine (rget_g _ k.l k.most k.room y.ino _ W31 (S31.out.g 0 rfl) HL.out).mono ?_
                      rintro e W32 ⟨aon, cpn, rfl, hn, hb⟩
                      have S32 := Lib.hid (S31.out.call hb)
                      clear hn
                      rw [← HNN.out, ← HG.out]
                      clear hb hHeld
                      go_wp2_with fail
                      refine hK.out _ _ ⟨(S32.out.at 0 rfl), k_disk (S32.out.at 0 rfl), ((TabX.firm _ _ _).sub (S32.out.g 1 rfl) fun _ h => h.elim), trivial⟩ (fun hHeld => ?_)
                      clear hK K
                      (try simp only [List.getElem_toArray]); (try simp only [List.getElem_cons_succ]); (try simp only [List.getElem_cons_zero]); (try simp only [Act.put]); (try simp only [List.setIfInBounds_toArray]); (try simp only [List.set_cons_succ]); (try simp only [List.set_cons_zero])
                      refine wpAnyH_take (i := 10) (v := ?v24) rfl (by kernel_rfl) (by kernel_rfl) (by kernel_rfl) (fun _ _ _ h => h) (Or.inl ⟨by rfl, ?hy24⟩) hHeld ?rest24
                      case hy24 => (intro w hSw; (try dsimp only at hSw); (try go_split_ands); go_simp; first | done | with_reducible rfl)
                      (try simp only [List.getElem_toArray]); (try simp only [List.getElem_cons_succ]); (try simp only [List.getElem_cons_zero]); (try simp only [Act.put]); (try simp only [List.setIfInBounds_toArray]); (try simp only [List.set_cons_succ]); (try simp only [List.set_cons_zero])
                      refine wpAnyH_take (i := 11) (v := ?v25) rfl (by kernel_rfl) (by kernel_rfl) (by kernel_rfl) (fun _ _ _ h => h) (Or.inl ⟨by rfl, ?hy25⟩) hHeld ?rest25
                      case hy25 => (intro w hSw; (try dsimp only at hSw); (try go_split_ands); go_simp; first | done | with_reducible rfl)
                      (try simp only [List.getElem_toArray]); (try simp only [List.getElem_cons_succ]); (try simp only [List.getElem_cons_zero]); (try simp only [Act.put]); (try simp only [List.setIfInBounds_toArray]); (try simp only [List.set_cons_succ]); (try simp only [List.set_cons_zero])
                      refine wpAnyH_take (i := 12) (v := ?v26) rfl (by kernel_rfl) (by kernel_rfl) (by kernel_rfl) (fun _ _ _ h => h) (Or.inl ⟨by rfl, ?hy26⟩) hHeld ?rest26
                      case hy26 => (intro w hSw; (try dsimp only at hSw); (try go_split_ands); go_simp; first | done | with_reducible rfl)
                      (try simp only [List.getElem_toArray]); (try simp only [List.getElem_cons_succ]); (try simp only [List.getElem_cons_zero]); (try simp only [Act.put]); (try simp only [List.setIfInBounds_toArray]); (try simp only [List.set_cons_succ]); (try simp only [List.set_cons_zero])
                      refine wpAnyH_ready (rs := [13]) (by kernel_rfl) (by simp) ?_
                      refine AllReadyH.cons rfl (fun K hK => ?_) AllReadyH.nil
                      go_simp
                      refine fresh1 (P := fun W => K _ W) ?_
                      intro W33 hb hn hs
                      have S33 := Lib.hid (S32.out.new1 hb hn)
                      clear hb hn hs hHeld
                      refine hK.out _ _ ⟨(S33.out.at 0 rfl), k_disk (S33.out.at 0 rfl), ((TabX.firm _ _ _).sub (S33.out.g 1 rfl) fun _ h => h.elim), trivial⟩ (fun hHeld => ?_)
                      clear hK K
                      (try simp only [List.getElem_toArray]); (try simp only [List.getElem_cons_succ]); (try simp only [List.getElem_cons_zero]); (try simp only [Act.put]); (try simp only [List.setIfInBounds_toArray]); (try simp only [List.set_cons_succ]); (try simp only [List.set_cons_zero])
                      refine wpAnyH_ready (rs := [14]) (by kernel_rfl) (by simp) ?_
                      refine AllReadyH.cons rfl (fun K hK => ?_) AllReadyH.nil
                      rw [if_pos (by rfl)]
                      refine wp_store_row 70 _ _ rfl _ rfl rfl (S33.out.at 1 rfl) rfl (by kernel_rfl) rfl ?_
                      intro W34 hb hg hs hn
                      have S34 := Lib.hid (S33.out.set 1 rfl hb hg hs hn)
                      clear hb hg hs hn hHeld
                      refine hK.out _ _ ⟨(S34.out.at 0 rfl), k_disk (S34.out.at 0 rfl), ((TabX.firm _ _ _).sub (S34.out.g 1 rfl) fun _ h => h.elim), trivial⟩ (fun hHeld => ?_)
                      clear hK K
                      (try simp only [List.getElem_toArray]); (try simp only [List.getElem_cons_succ]); (try simp only [List.getElem_cons_zero]); (try simp only [Act.put]); (try simp only [List.setIfInBounds_toArray]); (try simp only [List.set_cons_succ]); (try simp only [List.set_cons_zero])
                      refine wpAnyH_take (i := 15) (v := ?v27) rfl (by kernel_rfl) (by kernel_rfl) (by kernel_rfl) (fun _ _ _ h => h) (Or.inl ⟨by rfl, ?hy27⟩) hHeld ?rest27
                      case hy27 => (intro w hSw; (try dsimp only at hSw); (try go_split_ands); go_simp; first | done | with_reducible rfl)
                      (try simp only [List.getElem_toArray]); (try simp only [List.getElem_cons_succ]); (try simp only [List.getElem_cons_zero]); (try simp only [Act.put]); (try simp only [List.setIfInBounds_toArray]); (try simp only [List.set_cons_succ]); (try simp only [List.set_cons_zero])
                      refine wpAnyH_done (by kernel_rfl) ?_ _
                      go_wp2_with fail
                      go_meet
                      exact ⟨rfl, Lib.hid (S34.out.leave (by simp))⟩
                    · skip
                      go_simp
                      refine fresh1 (P := fun W => K _ W) ?_
                      intro W32 hb hn hs
                      have S32 := Lib.hid (S31.out.new1 hb hn)
                      clear hb hn hs hHeld
                      refine hK.out _ _ ⟨(S32.out.at 0 rfl), k_disk (S32.out.at 0 rfl), ((TabX.firm _ _ _).sub (S32.out.g 1 rfl) fun _ h => h.elim), trivial⟩ (fun hHeld => ?_)
                      clear hK K
                      (try simp only [List.getElem_toArray]); (try simp only [List.getElem_cons_succ]); (try simp only [List.getElem_cons_zero]); (try simp only [Act.put]); (try simp only [List.setIfInBounds_toArray]); (try simp only [List.set_cons_succ]); (try simp only [List.set_cons_zero])
                      refine wpAnyH_ready (rs := [9]) (by kernel_rfl) (by simp) ?_
                      refine AllReadyH.cons rfl (fun K hK => ?_) AllReadyH.nil
                      go_simp
                      refine (rget_g _ k.l k.most k.room y.ino _ W32 (S32.out.g 0 rfl) HL.out).mono ?_
                      rintro e W33 ⟨aon, cpn, rfl, hn, hb⟩
                      have S33 := Lib.hid (S32.out.call hb)
                      clear hn
                      rw [← HNN.out, ← HG.out]
                      clear hb hHeld
                      go_wp2_with fail
                      refine hK.out _ _ ⟨(S33.out.at 0 rfl), k_disk (S33.out.at 0 rfl), ((TabX.firm _ _ _).sub (S33.out.g 1 rfl) fun _ h => h.elim), trivial⟩ (fun hHeld => ?_)
                      clear hK K
                      (try simp only [List.getElem_toArray]); (try simp only [List.getElem_cons_succ]); (try simp only [List.getElem_cons_zero]); (try simp only [Act.put]); (try simp only [List.setIfInBounds_toArray]); (try simp only [List.set_cons_succ]); (try simp only [List.set_cons_zero])
                      refine wpAnyH_take (i := 10) (v := ?v28) rfl (by kernel_rfl) (by kernel_rfl) (by kernel_rfl) (fun _ _ _ h => h) (Or.inl ⟨by rfl, ?hy28⟩) hHeld ?rest28
                      case hy28 => (intro w hSw; (try dsimp only at hSw); (try go_split_ands); go_simp; first | done | with_reducible rfl)
                      (try simp only [List.getElem_toArray]); (try simp only [List.getElem_cons_succ]); (try simp only [List.getElem_cons_zero]); (try simp only [Act.put]); (try simp only [List.setIfInBounds_toArray]); (try simp only [List.set_cons_succ]); (try simp only [List.set_cons_zero])
                      refine wpAnyH_take (i := 11) (v := ?v29) rfl (by kernel_rfl) (by kernel_rfl) (by kernel_rfl) (fun _ _ _ h => h) (Or.inl ⟨by rfl, ?hy29⟩) hHeld ?rest29
                      case hy29 => (intro w hSw; (try dsimp only at hSw); (try go_split_ands); go_simp; first | done | with_reducible rfl)
                      (try simp only [List.getElem_toArray]); (try simp only [List.getElem_cons_succ]); (try simp only [List.getElem_cons_zero]); (try simp only [Act.put]); (try simp only [List.setIfInBounds_toArray]); (try simp only [List.set_cons_succ]); (try simp only [List.set_cons_zero])
                      refine wpAnyH_take (i := 12) (v := ?v30) rfl (by kernel_rfl) (by kernel_rfl) (by kernel_rfl) (fun _ _ _ h => h) (Or.inl ⟨by rfl, ?hy30⟩) hHeld ?rest30
                      case hy30 => (intro w hSw; (try dsimp only at hSw); (try go_split_ands); go_simp; first | done | with_reducible rfl)
                      (try simp only [List.getElem_toArray]); (try simp only [List.getElem_cons_succ]); (try simp only [List.getElem_cons_zero]); (try simp only [Act.put]); (try simp only [List.setIfInBounds_toArray]); (try simp only [List.set_cons_succ]); (try simp only [List.set_cons_zero])
                      refine wpAnyH_ready (rs := [14]) (by kernel_rfl) (by simp) ?_
                      refine AllReadyH.cons rfl (fun K hK => ?_) AllReadyH.nil
                      rw [if_pos (by rfl)]
                      refine wp_store_row 70 _ _ rfl _ rfl rfl (S33.out.at 1 rfl) rfl (by kernel_rfl) rfl ?_
                      intro W34 hb hg hs hn
                      have S34 := Lib.hid (S33.out.set 1 rfl hb hg hs hn)
                      clear hb hg hs hn hHeld
                      refine hK.out _ _ ⟨(S34.out.at 0 rfl), k_disk (S34.out.at 0 rfl), ((TabX.firm _ _ _).sub (S34.out.g 1 rfl) fun _ h => h.elim), trivial⟩ (fun hHeld => ?_)
                      clear hK K
                      (try simp only [List.getElem_toArray]); (try simp only [List.getElem_cons_succ]); (try simp only [List.getElem_cons_zero]); (try simp only [Act.put]); (try simp only [List.setIfInBounds_toArray]); (try simp only [List.set_cons_succ]); (try simp only [List.set_cons_zero])
                      refine wpAnyH_take (i := 15) (v := ?v31) rfl (by kernel_rfl) (by kernel_rfl) (by kernel_rfl) (fun _ _ _ h => h) (Or.inl ⟨by rfl, ?hy31⟩) hHeld ?rest31
                      case hy31 => (intro w hSw; (try dsimp only at hSw); (try go_split_ands); go_simp; first | done | with_reducible rfl)
                      (try simp only [List.getElem_toArray]); (try simp only [List.getElem_cons_succ]); (try simp only [List.getElem_cons_zero]); (try simp only [Act.put]); (try simp only [List.setIfInBounds_toArray]); (try simp only [List.set_cons_succ]); (try simp only [List.set_cons_zero])
                      refine wpAnyH_done (by kernel_rfl) ?_ _
                      go_wp2_with fail
                      go_meet
                      exact ⟨rfl, Lib.hid (S34.out.leave (by simp))⟩
                  case rest =>
                    obtain ⟨rfl, S31⟩ := hcut
                    generalize wc = W31 at *
                    have dc4 := desc_refs (S31.out.g 1 rfl) hlt
                    rw [← HY.out] at dc4
                    obtain ⟨-, -, -, k3, -, -⟩ := cells6 (S31.out.at 0 rfl)
                    by_cases hrf : 0 < y.refs
                    · have g0 : decide (0 < y.refs) = true := decide_eq_true hrf
                      have g1 : decide (y.refs > 0) = true := g0
                      cases gb with
                      | false =>
                        have HN : Hid (rightK k = false) := Lib.hid (by rw [HO2.out]; exact open_no hlt (by rw [← HY.out]; exact hrf) (by rw [← HY.out]; exact HG.out.symm))
                        clear hrf
                        go_wp2_with fail
                        go_ret
                        exact ⟨by rw [HN.out]; rfl, S31.out.bel⟩
                      | true =>
                        have HDn : Hid (∀ d ∈ k.t.ds.take (j + 1), descGot k d = true) := Lib.hid (fun d hd => by rw [List.take_succ_eq_append_getElem hlt] at hd; rcases List.mem_append.1 hd with hd | hd; exact HDG.out d hd; rw [List.mem_singleton] at hd; subst hd; unfold descGot; rw [← HY.out, ← HG.out, Bool.or_true])
                        clear hrf
                        go_wp2_with fail
                        go_roundw
                        case rel => exact ⟨j + 1, by go_num, hlt, S31, HDn⟩
                        case measure => simp [RowKit.intOf]; omega
                    · have g0 : decide (0 < y.refs) = false := decide_eq_false hrf
                      have g1 : decide (y.refs > 0) = false := g0
                      have HDn : Hid (∀ d ∈ k.t.ds.take (j + 1), descGot k d = true) := Lib.hid (fun d hd => by rw [List.take_succ_eq_append_getElem hlt] at hd; rcases List.mem_append.1 hd with hd | hd; exact HDG.out d hd; rw [List.mem_singleton] at hd; subst hd; unfold descGot; rw [← HY.out, decide_eq_false hrf]; rfl)
                      clear hrf
                      go_wp2_with fail
                      go_roundw
                      case rel => exact ⟨j + 1, by go_num, hlt, S31, HDn⟩
                      case measure => simp [RowKit.intOf]; omega
                · have iL2 : decide (j < k.t.ds.length) = false := decide_eq_false (by omega)
                  have iM2 : decide ((j : Int) < (k.t.ds.length : Int)) = false := decide_eq_false (by omega)
                  have HDA : Hid (∀ d ∈ k.t.ds, descGot k d = true) := Lib.hid (by have := HDG.out; rw [List.take_of_length_le (by omega)] at this; exact this)
                  clear hlt HDG
                  have hll := HL.out
                  obtain ⟨-, -, -, k3, -, -⟩ := cells6 (S30.out.at 0 rfl)
                  go_wp2_with fail
                  clear k3
                  go_loopw [9] (fun i wr => ∃ m : Nat, i = .int .i64 m ∧ m ≤ k.l.length ∧ Hid (Sf (fun _ => False) w [(w.heap.size, #[.slice ao k.l.length co, .int .i64 k.most, .int .i64 k.room, .slice ad k.t.ds.length cd, .slice af k.t.fs.length cf, .slice ap k.ps.length cp], 43)] [DiskX k.l (.slice ao k.l.length co), TabX k.t (.slice ad k.t.ds.length cd) (.slice af k.t.fs.length cf), PsX k.ps (.slice ap k.ps.length cp)] wr) ∧ Hid (∀ q : Nat, q < m → nodeOpn k q = true)) (fun i _ => k.l.length - (RowKit.intOf i).toNat)
                  case atStart => exact ⟨0, rfl, Nat.zero_le _, S30, Lib.hid (fun q hq => by omega)⟩
                  case round =>
                    clear S30
                    obtain ⟨m, rfl, hm, S40, HOQ⟩ := hrel
                    by_cases hlt : m < k.l.length
                    · have iL4 : decide (m < k.l.length) = true := decide_eq_true (by omega)
                      have iM4 : decide ((m : Int) < (k.l.length : Int)) = true := decide_eq_true (by omega)
                      have p0 : (0 : Int) ≤ (m : Int) := by omega
                      have p1 : (m : Int) < (k.l.length : Int) := by omega
                      have wm : IntKind.i64.wrap ((m : Int) + 1) = (m : Int) + 1 := Go.IntWalk.i64_in _ (by omega)
                      obtain ⟨b7, off7, aon, cpn, e7, cN⟩ := DiskX.range (S40.out.g 0 rfl) m hlt
                      subst e7
                      obtain ⟨y, hy⟩ : ∃ y, y = k.l[m] := ⟨_, rfl⟩
                      have HY : Hid (nd k.l m = y) := Lib.hid (by rw [hy]; exact nd_in _ _ hlt)
                      have HY2 := Lib.hid hy
                      clear hy cN
                      obtain ⟨c9, hc⟩ : ∃ c, c = opensN k (m : Int) := ⟨_, rfl⟩
                      have HC := Lib.hid hc
                      clear hc
                      have NOM : Hid (nodeOpn k m = false → rightK k = false) := Lib.hid (fun h => by rw [HO2.out]; unfold openedB; rw [show (List.range k.l.length).all (nodeOpn k) = false from List.all_eq_false.2 ⟨m, List.mem_range.2 hlt, by rw [h]; decide⟩, Bool.and_false])
                      have YES : Hid (nodeOpn k m = true → ∀ q : Nat, q < m + 1 → nodeOpn k q = true) := Lib.hid (fun h q hq => by rcases Nat.lt_or_ge q m with h2 | h2; exact HOQ.out q h2; obtain rfl : q = m := (by omega); exact h)
                      have HOP : Hid (nodeOpn k m = (decide (y.kind = 0) || decide (y.opn = c9))) := Lib.hid (by unfold nodeOpn; rw [HY.out, HC.out])
                      clear HOQ
                      obtain ⟨k0, -, -, -, -, -⟩ := cells6 (S40.out.at 0 rfl)
                      go_upto_region 21 with (fail)
                      clear k0
                      by_cases h0 : y.kind = 0
                      · have i01 : (y.kind == 0) = true := by simpa using h0
                        have i02 : decide (y.kind = 0) = true := decide_eq_true h0
                        have i03 : (y.kind != 0) = false := by simpa using h0
                        clear h0
                        have h_k := (S40.out.at 0 rfl)
                        refine wp_region_held_drew (S := fun W => W.heap[w.heap.size]? = some (.cells #[.slice (some ⟨b7, off7, none⟩) k.l.length co, .int .i64 k.most, .int .i64 k.room, .slice ad k.t.ds.length cd, .slice af k.t.fs.length cf, .slice ap k.ps.length cp] 43 (0, 0)) ∧ DiskX k.l (.slice (some ⟨b7, off7, none⟩) k.l.length co) (fun _ => False) W ∧ True) (by kernel_rfl) ⟨(S40.out.at 0 rfl), ((DiskX.firm _ _).sub (S40.out.g 0 rfl) fun _ h => h.elim), trivial⟩ (fun hHeld => ?_)
                        clear h_k
                        have S41 := Lib.hid (S40.out.call (Below.refl wr.heap.size wr).drew)
                        generalize wr.drew = W41 at *
                        refine wpAnyH_take (i := 0) (v := ?v32) rfl (by kernel_rfl) (by kernel_rfl) (by kernel_rfl) (fun _ _ _ h => h) (Or.inl ⟨by rfl, ?hy32⟩) hHeld ?rest32
                        case hy32 => (intro w hSw; (try dsimp only at hSw); (try go_split_ands); go_simp; first | done | with_reducible rfl)
                        (try simp only [List.getElem_toArray]); (try simp only [List.getElem_cons_succ]); (try simp only [List.getElem_cons_zero]); (try simp only [Act.put]); (try simp only [List.setIfInBounds_toArray]); (try simp only [List.set_cons_succ]); (try simp only [List.set_cons_zero])
                        refine wpAnyH_take (i := 1) (v := ?v33) rfl (by kernel_rfl) (by kernel_rfl) (by kernel_rfl) (fun _ _ _ h => h) (Or.inl ⟨by rfl, ?hy33⟩) hHeld ?rest33
                        case hy33 => (intro w hSw; (try dsimp only at hSw); (try go_split_ands); go_simp; first | done | with_reducible rfl)
                        (try simp only [List.getElem_toArray]); (try simp only [List.getElem_cons_succ]); (try simp only [List.getElem_cons_zero]); (try simp only [Act.put]); (try simp only [List.setIfInBounds_toArray]); (try simp only [List.set_cons_succ]); (try simp only [List.set_cons_zero])
                        refine wpAnyH_take (i := 2) (v := ?v34) rfl (by kernel_rfl) (by kernel_rfl) (by kernel_rfl) (fun _ _ _ h => h) (Or.inl ⟨by rfl, ?hy34⟩) hHeld ?rest34
                        case hy34 => (intro w hSw; (try dsimp only at hSw); have hcc := (cells6 hSw.1).1; (try go_split_ands); go_simp; first | done | with_reducible rfl)
                        (try simp only [List.getElem_toArray]); (try simp only [List.getElem_cons_succ]); (try simp only [List.getElem_cons_zero]); (try simp only [Act.put]); (try simp only [List.setIfInBounds_toArray]); (try simp only [List.set_cons_succ]); (try simp only [List.set_cons_zero])
                        refine wpAnyH_take (i := 3) (v := ?v35) rfl (by kernel_rfl) (by kernel_rfl) (by kernel_rfl) (fun _ _ _ h => h) (Or.inl ⟨by rfl, ?hy35⟩) hHeld ?rest35
                        case hy35 => (intro w hSw; (try dsimp only at hSw); (try go_split_ands); go_simp; first | done | with_reducible rfl)
                        (try simp only [List.getElem_toArray]); (try simp only [List.getElem_cons_succ]); (try simp only [List.getElem_cons_zero]); (try simp only [Act.put]); (try simp only [List.setIfInBounds_toArray]); (try simp only [List.set_cons_succ]); (try simp only [List.set_cons_zero])
                        refine wpAnyH_take (i := 4) (v := ?v36) rfl (by kernel_rfl) (by kernel_rfl) (by kernel_rfl) (fun _ _ _ h => h) (Or.inl ⟨by rfl, ?hy36⟩) hHeld ?rest36
                        case hy36 => (intro w hSw; (try dsimp only at hSw); (try go_split_ands); go_simp; first | done | with_reducible rfl)
                        (try simp only [List.getElem_toArray]); (try simp only [List.getElem_cons_succ]); (try simp only [List.getElem_cons_zero]); (try simp only [Act.put]); (try simp only [List.setIfInBounds_toArray]); (try simp only [List.set_cons_succ]); (try simp only [List.set_cons_zero])
                        refine wpAnyH_take (i := 5) (v := ?v37) rfl (by kernel_rfl) (by kernel_rfl) (by kernel_rfl) (fun _ _ _ h => h) (Or.inl ⟨by rfl, ?hy37⟩) hHeld ?rest37
                        case hy37 => (intro w hSw; (try dsimp only at hSw); (try go_split_ands); go_simp; first | done | with_reducible rfl)
                        (try simp only [List.getElem_toArray]); (try simp only [List.getElem_cons_succ]); (try simp only [List.getElem_cons_zero]); (try simp only [Act.put]); (try simp only [List.setIfInBounds_toArray]); (try simp only [List.set_cons_succ]); (try simp only [List.set_cons_zero])
                        refine wpAnyH_take (i := 6) (v := ?v38) rfl (by kernel_rfl) (by kernel_rfl) (by kernel_rfl) (fun _ _ _ h => h) (Or.inl ⟨by rfl, ?hy38⟩) hHeld ?rest38
                        case hy38 => (intro w hSw; (try dsimp only at hSw); have hcc := node_kind hSw.2.1 hlt; rw [← HY2.out] at hcc; (try go_split_ands); go_simp; first | done | with_reducible rfl)
                        (try simp only [List.getElem_toArray]); (try simp only [List.getElem_cons_succ]); (try simp only [List.getElem_cons_zero]); (try simp only [Act.put]); (try simp only [List.setIfInBounds_toArray]); (try simp only [List.set_cons_succ]); (try simp only [List.set_cons_zero])
                        refine wpAnyH_take (i := 7) (v := ?v39) rfl (by kernel_rfl) (by kernel_rfl) (by kernel_rfl) (fun _ _ _ h => h) (Or.inl ⟨by rfl, ?hy39⟩) hHeld ?rest39
                        case hy39 => (intro w hSw; (try dsimp only at hSw); (try go_split_ands); go_simp; first | done | with_reducible rfl)
                        (try simp only [List.getElem_toArray]); (try simp only [List.getElem_cons_succ]); (try simp only [List.getElem_cons_zero]); (try simp only [Act.put]); (try simp only [List.setIfInBounds_toArray]); (try simp only [List.set_cons_succ]); (try simp only [List.set_cons_zero])
                        refine wpAnyH_take (i := 8) (v := ?v40) rfl (by kernel_rfl) (by kernel_rfl) (by kernel_rfl) (fun _ _ _ h => h) (Or.inl ⟨by rfl, ?hy40⟩) hHeld ?rest40
                        case hy40 => (intro w hSw; (try dsimp only at hSw); (try go_split_ands); go_simp; first | done | with_reducible rfl)
                        (try simp only [List.getElem_toArray]); (try simp only [List.getElem_cons_succ]); (try simp only [List.getElem_cons_zero]); (try simp only [Act.put]); (try simp only [List.setIfInBounds_toArray]); (try simp only [List.set_cons_succ]); (try simp only [List.set_cons_zero])
                        refine wpAnyH_take (i := 9) (v := undef) rfl (by kernel_rfl) (by kernel_rfl) (by kernel_rfl) (fun _ _ _ h => h) (Or.inr ⟨by rfl, rfl⟩) hHeld ?_
                        (try simp only [List.getElem_toArray]); (try simp only [List.getElem_cons_succ]); (try simp only [List.getElem_cons_zero]); (try simp only [Act.put]); (try simp only [List.setIfInBounds_toArray]); (try simp only [List.set_cons_succ]); (try simp only [List.set_cons_zero])
                        refine wpAnyH_take (i := 10) (v := undef) rfl (by kernel_rfl) (by kernel_rfl) (by kernel_rfl) (fun _ _ _ h => h) (Or.inr ⟨by rfl, rfl⟩) hHeld ?_
                        (try simp only [List.getElem_toArray]); (try simp only [List.getElem_cons_succ]); (try simp only [List.getElem_cons_zero]); (try simp only [Act.put]); (try simp only [List.setIfInBounds_toArray]); (try simp only [List.set_cons_succ]); (try simp only [List.set_cons_zero])
                        refine wpAnyH_take (i := 11) (v := undef) rfl (by kernel_rfl) (by kernel_rfl) (by kernel_rfl) (fun _ _ _ h => h) (Or.inr ⟨by rfl, rfl⟩) hHeld ?_
                        (try simp only [List.getElem_toArray]); (try simp only [List.getElem_cons_succ]); (try simp only [List.getElem_cons_zero]); (try simp only [Act.put]); (try simp only [List.setIfInBounds_toArray]); (try simp only [List.set_cons_succ]); (try simp only [List.set_cons_zero])
                        refine wpAnyH_take (i := 12) (v := undef) rfl (by kernel_rfl) (by kernel_rfl) (by kernel_rfl) (fun _ _ _ h => h) (Or.inr ⟨by rfl, rfl⟩) hHeld ?_
                        (try simp only [List.getElem_toArray]); (try simp only [List.getElem_cons_succ]); (try simp only [List.getElem_cons_zero]); (try simp only [Act.put]); (try simp only [List.setIfInBounds_toArray]); (try simp only [List.set_cons_succ]); (try simp only [List.set_cons_zero])
                        refine wpAnyH_take (i := 13) (v := undef) rfl (by kernel_rfl) (by kernel_rfl) (by kernel_rfl) (fun _ _ _ h => h) (Or.inr ⟨by rfl, rfl⟩) hHeld ?_
                        (try simp only [List.getElem_toArray]); (try simp only [List.getElem_cons_succ]); (try simp only [List.getElem_cons_zero]); (try simp only [Act.put]); (try simp only [List.setIfInBounds_toArray]); (try simp only [List.set_cons_succ]); (try simp only [List.set_cons_zero])
                        refine wpAnyH_take (i := 14) (v := undef) rfl (by kernel_rfl) (by kernel_rfl) (by kernel_rfl) (fun _ _ _ h => h) (Or.inr ⟨by rfl, rfl⟩) hHeld ?_
                        (try simp only [List.getElem_toArray]); (try simp only [List.getElem_cons_succ]); (try simp only [List.getElem_cons_zero]); (try simp only [Act.put]); (try simp only [List.setIfInBounds_toArray]); (try simp only [List.set_cons_succ]); (try simp only [List.set_cons_zero])
                        refine wpAnyH_take (i := 15) (v := undef) rfl (by kernel_rfl) (by kernel_rfl) (by kernel_rfl) (fun _ _ _ h => h) (Or.inr ⟨by rfl, rfl⟩) hHeld ?_
                        (try simp only [List.getElem_toArray]); (try simp only [List.getElem_cons_succ]); (try simp only [List.getElem_cons_zero]); (try simp only [Act.put]); (try simp only [List.setIfInBounds_toArray]); (try simp only [List.set_cons_succ]); (try simp only [List.set_cons_zero])
                        refine wpAnyH_take (i := 16) (v := undef) rfl (by kernel_rfl) (by kernel_rfl) (by kernel_rfl) (fun _ _ _ h => h) (Or.inr ⟨by rfl, rfl⟩) hHeld ?_
                        (try simp only [List.getElem_toArray]); (try simp only [List.getElem_cons_succ]); (try simp only [List.getElem_cons_zero]); (try simp only [Act.put]); (try simp only [List.setIfInBounds_toArray]); (try simp only [List.set_cons_succ]); (try simp only [List.set_cons_zero])
                        refine wpAnyH_take (i := 17) (v := undef) rfl (by kernel_rfl) (by kernel_rfl) (by kernel_rfl) (fun _ _ _ h => h) (Or.inr ⟨by rfl, rfl⟩) hHeld ?_
                        (try simp only [List.getElem_toArray]); (try simp only [List.getElem_cons_succ]); (try simp only [List.getElem_cons_zero]); (try simp only [Act.put]); (try simp only [List.setIfInBounds_toArray]); (try simp only [List.set_cons_succ]); (try simp only [List.set_cons_zero])
                        refine wpAnyH_take (i := 18) (v := undef) rfl (by kernel_rfl) (by kernel_rfl) (by kernel_rfl) (fun _ _ _ h => h) (Or.inr ⟨by rfl, rfl⟩) hHeld ?_
                        (try simp only [List.getElem_toArray]); (try simp only [List.getElem_cons_succ]); (try simp only [List.getElem_cons_zero]); (try simp only [Act.put]); (try simp only [List.setIfInBounds_toArray]); (try simp only [List.set_cons_succ]); (try simp only [List.set_cons_zero])
                        refine wpAnyH_take (i := 19) (v := undef) rfl (by kernel_rfl) (by kernel_rfl) (by kernel_rfl) (fun _ _ _ h => h) (Or.inr ⟨by rfl, rfl⟩) hHeld ?_
                        (try simp only [List.getElem_toArray]); (try simp only [List.getElem_cons_succ]); (try simp only [List.getElem_cons_zero]); (try simp only [Act.put]); (try simp only [List.setIfInBounds_toArray]); (try simp only [List.set_cons_succ]); (try simp only [List.set_cons_zero])
                        refine wpAnyH_take (i := 20) (v := ?v41) rfl (by kernel_rfl) (by kernel_rfl) (by kernel_rfl) (fun _ _ _ h => h) (Or.inl ⟨by rfl, ?hy41⟩) hHeld ?rest41
                        case hy41 => (intro w hSw; (try dsimp only at hSw); (try go_split_ands); go_simp; first | done | with_reducible rfl)
                        (try simp only [List.getElem_toArray]); (try simp only [List.getElem_cons_succ]); (try simp only [List.getElem_cons_zero]); (try simp only [Act.put]); (try simp only [List.setIfInBounds_toArray]); (try simp only [List.set_cons_succ]); (try simp only [List.set_cons_zero])
                        refine wpAnyH_done (by kernel_rfl) ?_ _
                        have HYY := Lib.hid (YES.out (by rw [HOP.out, i02]; rfl))
                        go_wp2_with fail
                        go_roundw
                        case rel => exact ⟨m + 1, by go_num, hlt, S41, HYY⟩
                        case measure => simp [RowKit.intOf]; omega
                      · have i01 : (y.kind == 0) = false := by simpa using h0
                        have i02 : decide (y.kind = 0) = false := decide_eq_false h0
                        have i03 : (y.kind != 0) = true := by simpa using h0
                        clear h0
                        go_cut [150] (fun s150 wx => s150 = .bool (y.opn != c9) ∧ Hid (Sf (fun _ => False) w [(w.heap.size, #[.slice (some ⟨b7, off7, none⟩) k.l.length co, .int .i64 k.most, .int .i64 k.room, .slice ad k.t.ds.length cd, .slice af k.t.fs.length cf, .slice ap k.ps.length cp], 43)] [DiskX k.l (.slice (some ⟨b7, off7, none⟩) k.l.length co), TabX k.t (.slice ad k.t.ds.length cd) (.slice af k.t.fs.length cf), PsX k.ps (.slice ap k.ps.length cp)] wx))
                        case first =>
                          have h_k := (S40.out.at 0 rfl)
                          refine wp_region_held_drew (S := fun W => W.heap[w.heap.size]? = some (.cells #[.slice (some ⟨b7, off7, none⟩) k.l.length co, .int .i64 k.most, .int .i64 k.room, .slice ad k.t.ds.length cd, .slice af k.t.fs.length cf, .slice ap k.ps.length cp] 43 (0, 0)) ∧ DiskX k.l (.slice (some ⟨b7, off7, none⟩) k.l.length co) (fun _ => False) W ∧ True) (by kernel_rfl) ⟨(S40.out.at 0 rfl), ((DiskX.firm _ _).sub (S40.out.g 0 rfl) fun _ h => h.elim), trivial⟩ (fun hHeld => ?_)
                          clear h_k
                          have S41 := Lib.hid (S40.out.call (Below.refl wr.heap.size wr).drew)
                          generalize wr.drew = W41 at *
                          refine wpAnyH_take (i := 0) (v := ?v42) rfl (by kernel_rfl) (by kernel_rfl) (by kernel_rfl) (fun _ _ _ h => h) (Or.inl ⟨by rfl, ?hy42⟩) hHeld ?rest42
                          case hy42 => (intro w hSw; (try dsimp only at hSw); (try go_split_ands); go_simp; first | done | with_reducible rfl)
                          (try simp only [List.getElem_toArray]); (try simp only [List.getElem_cons_succ]); (try simp only [List.getElem_cons_zero]); (try simp only [Act.put]); (try simp only [List.setIfInBounds_toArray]); (try simp only [List.set_cons_succ]); (try simp only [List.set_cons_zero])
                          refine wpAnyH_take (i := 1) (v := ?v43) rfl (by kernel_rfl) (by kernel_rfl) (by kernel_rfl) (fun _ _ _ h => h) (Or.inl ⟨by rfl, ?hy43⟩) hHeld ?rest43
                          case hy43 => (intro w hSw; (try dsimp only at hSw); (try go_split_ands); go_simp; first | done | with_reducible rfl)
                          (try simp only [List.getElem_toArray]); (try simp only [List.getElem_cons_succ]); (try simp only [List.getElem_cons_zero]); (try simp only [Act.put]); (try simp only [List.setIfInBounds_toArray]); (try simp only [List.set_cons_succ]); (try simp only [List.set_cons_zero])
                          refine wpAnyH_take (i := 2) (v := ?v44) rfl (by kernel_rfl) (by kernel_rfl) (by kernel_rfl) (fun _ _ _ h => h) (Or.inl ⟨by rfl, ?hy44⟩) hHeld ?rest44
                          case hy44 => (intro w hSw; (try dsimp only at hSw); have hcc := (cells6 hSw.1).1; (try go_split_ands); go_simp; first | done | with_reducible rfl)
                          (try simp only [List.getElem_toArray]); (try simp only [List.getElem_cons_succ]); (try simp only [List.getElem_cons_zero]); (try simp only [Act.put]); (try simp only [List.setIfInBounds_toArray]); (try simp only [List.set_cons_succ]); (try simp only [List.set_cons_zero])
                          refine wpAnyH_take (i := 3) (v := ?v45) rfl (by kernel_rfl) (by kernel_rfl) (by kernel_rfl) (fun _ _ _ h => h) (Or.inl ⟨by rfl, ?hy45⟩) hHeld ?rest45
                          case hy45 => (intro w hSw; (try dsimp only at hSw); (try go_split_ands); go_simp; first | done | with_reducible rfl)
                          (try simp only [List.getElem_toArray]); (try simp only [List.getElem_cons_succ]); (try simp only [List.getElem_cons_zero]); (try simp only [Act.put]); (try simp only [List.setIfInBounds_toArray]); (try simp only [List.set_cons_succ]); (try simp only [List.set_cons_zero])
                          refine wpAnyH_take (i := 4) (v := ?v46) rfl (by kernel_rfl) (by kernel_rfl) (by kernel_rfl) (fun _ _ _ h => h) (Or.inl ⟨by rfl, ?hy46⟩) hHeld ?rest46
                          case hy46 => (intro w hSw; (try dsimp only at hSw); (try go_split_ands); go_simp; first | done | with_reducible rfl)
                          (try simp only [List.getElem_toArray]); (try simp only [List.getElem_cons_succ]); (try simp only [List.getElem_cons_zero]); (try simp only [Act.put]); (try simp only [List.setIfInBounds_toArray]); (try simp only [List.set_cons_succ]); (try simp only [List.set_cons_zero])
                          refine wpAnyH_take (i := 5) (v := ?v47) rfl (by kernel_rfl) (by kernel_rfl) (by kernel_rfl) (fun _ _ _ h => h) (Or.inl ⟨by rfl, ?hy47⟩) hHeld ?rest47
                          case hy47 => (intro w hSw; (try dsimp only at hSw); (try go_split_ands); go_simp; first | done | with_reducible rfl)
                          (try simp only [List.getElem_toArray]); (try simp only [List.getElem_cons_succ]); (try simp only [List.getElem_cons_zero]); (try simp only [Act.put]); (try simp only [List.setIfInBounds_toArray]); (try simp only [List.set_cons_succ]); (try simp only [List.set_cons_zero])
                          refine wpAnyH_take (i := 6) (v := ?v48) rfl (by kernel_rfl) (by kernel_rfl) (by kernel_rfl) (fun _ _ _ h => h) (Or.inl ⟨by rfl, ?hy48⟩) hHeld ?rest48
                          case hy48 => (intro w hSw; (try dsimp only at hSw); have hcc := node_kind hSw.2.1 hlt; rw [← HY2.out] at hcc; (try go_split_ands); go_simp; first | done | with_reducible rfl)
                          (try simp only [List.getElem_toArray]); (try simp only [List.getElem_cons_succ]); (try simp only [List.getElem_cons_zero]); (try simp only [Act.put]); (try simp only [List.setIfInBounds_toArray]); (try simp only [List.set_cons_succ]); (try simp only [List.set_cons_zero])
                          refine wpAnyH_take (i := 7) (v := ?v49) rfl (by kernel_rfl) (by kernel_rfl) (by kernel_rfl) (fun _ _ _ h => h) (Or.inl ⟨by rfl, ?hy49⟩) hHeld ?rest49
                          case hy49 => (intro w hSw; (try dsimp only at hSw); (try go_split_ands); go_simp; first | done | with_reducible rfl)
                          (try simp only [List.getElem_toArray]); (try simp only [List.getElem_cons_succ]); (try simp only [List.getElem_cons_zero]); (try simp only [Act.put]); (try simp only [List.setIfInBounds_toArray]); (try simp only [List.set_cons_succ]); (try simp only [List.set_cons_zero])
                          refine wpAnyH_take (i := 8) (v := ?v50) rfl (by kernel_rfl) (by kernel_rfl) (by kernel_rfl) (fun _ _ _ h => h) (Or.inl ⟨by rfl, ?hy50⟩) hHeld ?rest50
                          case hy50 => (intro w hSw; (try dsimp only at hSw); (try go_split_ands); go_simp; first | done | with_reducible rfl)
                          (try simp only [List.getElem_toArray]); (try simp only [List.getElem_cons_succ]); (try simp only [List.getElem_cons_zero]); (try simp only [Act.put]); (try simp only [List.setIfInBounds_toArray]); (try simp only [List.set_cons_succ]); (try simp only [List.set_cons_zero])
                          refine wpAnyH_take (i := 9) (v := ?v51) rfl (by kernel_rfl) (by kernel_rfl) (by kernel_rfl) (fun _ _ _ h => h) (Or.inl ⟨by rfl, ?hy51⟩) hHeld ?rest51
                          case hy51 => (intro w hSw; (try dsimp only at hSw); (try go_split_ands); go_simp; first | done | with_reducible rfl)
                          (try simp only [List.getElem_toArray]); (try simp only [List.getElem_cons_succ]); (try simp only [List.getElem_cons_zero]); (try simp only [Act.put]); (try simp only [List.setIfInBounds_toArray]); (try simp only [List.set_cons_succ]); (try simp only [List.set_cons_zero])
                          refine wpAnyH_take (i := 10) (v := ?v52) rfl (by kernel_rfl) (by kernel_rfl) (by kernel_rfl) (fun _ _ _ h => h) (Or.inl ⟨by rfl, ?hy52⟩) hHeld ?rest52
                          case hy52 => (intro w hSw; (try dsimp only at hSw); (try go_split_ands); go_simp; first | done | with_reducible rfl)
                          (try simp only [List.getElem_toArray]); (try simp only [List.getElem_cons_succ]); (try simp only [List.getElem_cons_zero]); (try simp only [Act.put]); (try simp only [List.setIfInBounds_toArray]); (try simp only [List.set_cons_succ]); (try simp only [List.set_cons_zero])
                          refine wpAnyH_take (i := 11) (v := ?v53) rfl (by kernel_rfl) (by kernel_rfl) (by kernel_rfl) (fun _ _ _ h => h) (Or.inl ⟨by rfl, ?hy53⟩) hHeld ?rest53
                          case hy53 => (intro w hSw; (try dsimp only at hSw); have hcc := (cells6 hSw.1).1; (try go_split_ands); go_simp; first | done | with_reducible rfl)
                          (try simp only [List.getElem_toArray]); (try simp only [List.getElem_cons_succ]); (try simp only [List.getElem_cons_zero]); (try simp only [Act.put]); (try simp only [List.setIfInBounds_toArray]); (try simp only [List.set_cons_succ]); (try simp only [List.set_cons_zero])
                          refine wpAnyH_take (i := 12) (v := ?v54) rfl (by kernel_rfl) (by kernel_rfl) (by kernel_rfl) (fun _ _ _ h => h) (Or.inl ⟨by rfl, ?hy54⟩) hHeld ?rest54
                          case hy54 => (intro w hSw; (try dsimp only at hSw); (try go_split_ands); go_simp; first | done | with_reducible rfl)
                          (try simp only [List.getElem_toArray]); (try simp only [List.getElem_cons_succ]); (try simp only [List.getElem_cons_zero]); (try simp only [Act.put]); (try simp only [List.setIfInBounds_toArray]); (try simp only [List.set_cons_succ]); (try simp only [List.set_cons_zero])
                          refine wpAnyH_take (i := 13) (v := ?v55) rfl (by kernel_rfl) (by kernel_rfl) (by kernel_rfl) (fun _ _ _ h => h) (Or.inl ⟨by rfl, ?hy55⟩) hHeld ?rest55
                          case hy55 => (intro w hSw; (try dsimp only at hSw); (try go_split_ands); go_simp; first | done | with_reducible rfl)
                          (try simp only [List.getElem_toArray]); (try simp only [List.getElem_cons_succ]); (try simp only [List.getElem_cons_zero]); (try simp only [Act.put]); (try simp only [List.setIfInBounds_toArray]); (try simp only [List.set_cons_succ]); (try simp only [List.set_cons_zero])
                          refine wpAnyH_take (i := 14) (v := ?v56) rfl (by kernel_rfl) (by kernel_rfl) (by kernel_rfl) (fun _ _ _ h => h) (Or.inl ⟨by rfl, ?hy56⟩) hHeld ?rest56
                          case hy56 => (intro w hSw; (try dsimp only at hSw); (try go_split_ands); go_simp; first | done | with_reducible rfl)
                          (try simp only [List.getElem_toArray]); (try simp only [List.getElem_cons_succ]); (try simp only [List.getElem_cons_zero]); (try simp only [Act.put]); (try simp only [List.setIfInBounds_toArray]); (try simp only [List.set_cons_succ]); (try simp only [List.set_cons_zero])
                          refine wpAnyH_take (i := 15) (v := ?v57) rfl (by kernel_rfl) (by kernel_rfl) (by kernel_rfl) (fun _ _ _ h => h) (Or.inl ⟨by rfl, ?hy57⟩) hHeld ?rest57
                          case hy57 => (intro w hSw; (try dsimp only at hSw); have hcc := node_opn hSw.2.1 hlt; rw [← HY2.out] at hcc; (try go_split_ands); go_simp; first | done | with_reducible rfl)
                          (try simp only [List.getElem_toArray]); (try simp only [List.getElem_cons_succ]); (try simp only [List.getElem_cons_zero]); (try simp only [Act.put]); (try simp only [List.setIfInBounds_toArray]); (try simp only [List.set_cons_succ]); (try simp only [List.set_cons_zero])
                          refine wpAnyH_take (i := 16) rfl (by kernel_rfl) (by kernel_rfl) (by kernel_rfl) (fun _ _ _ h => h) (yieldsIf_load_row (by rfl) 43 _ rfl _ rfl 43 _ (0, 0) _ (fun _ h => h.1) Tryz.underlying43 rfl (by kernel_rfl)) hHeld ?_
                          (try simp only [List.getElem_toArray]); (try simp only [List.getElem_cons_succ]); (try simp only [List.getElem_cons_zero]); (try simp only [Act.put]); (try simp only [List.setIfInBounds_toArray]); (try simp only [List.set_cons_succ]); (try simp only [List.set_cons_zero])
                          refine wpAnyH_take (i := 17) (v := ?v58) rfl (by kernel_rfl) (by kernel_rfl) (by kernel_rfl) (fun _ _ _ h => h) (Or.inl ⟨by rfl, ?hy58⟩) hHeld ?rest58
                          case hy58 => (intro w hSw; (try dsimp only at hSw); (try go_split_ands); go_simp; first | done | with_reducible rfl)
                          (try simp only [List.getElem_toArray]); (try simp only [List.getElem_cons_succ]); (try simp only [List.getElem_cons_zero]); (try simp only [Act.put]); (try simp only [List.setIfInBounds_toArray]); (try simp only [List.set_cons_succ]); (try simp only [List.set_cons_zero])
                          refine wpAnyH_ready (rs := [18]) (by kernel_rfl) (by simp) ?_
                          refine AllReadyH.cons rfl (fun K hK => ?_) AllReadyH.nil
                          go_simp
                          refine (ropens_c (fun _ => False) k _ _ _ _ _ _ _ _ W41 (m : Int) (fun _ h => h.elim) (S41.out.gX 0 rfl) (S41.out.gX 1 rfl) (S41.out.gX 2 rfl) hdl hpl).mono ?_
                          rintro e W42 ⟨rfl, hb⟩
                          have S42 := Lib.hid (S41.out.call hb)
                          rw [← HC.out]
                          clear hb hHeld
                          go_wp2_with fail
                          refine hK.out _ _ ⟨(S42.out.at 0 rfl), ((DiskX.firm _ _).sub (S42.out.g 0 rfl) fun _ h => h.elim), trivial⟩ (fun hHeld => ?_)
                          clear hK K
                          (try simp only [List.getElem_toArray]); (try simp only [List.getElem_cons_succ]); (try simp only [List.getElem_cons_zero]); (try simp only [Act.put]); (try simp only [List.setIfInBounds_toArray]); (try simp only [List.set_cons_succ]); (try simp only [List.set_cons_zero])
                          refine wpAnyH_take (i := 19) (v := ?v59) rfl (by kernel_rfl) (by kernel_rfl) (by kernel_rfl) (fun _ _ _ h => h) (Or.inl ⟨by rfl, ?hy59⟩) hHeld ?rest59
                          case hy59 => (intro w hSw; (try dsimp only at hSw); (try go_split_ands); go_simp; first | done | with_reducible rfl)
                          (try simp only [List.getElem_toArray]); (try simp only [List.getElem_cons_succ]); (try simp only [List.getElem_cons_zero]); (try simp only [Act.put]); (try simp only [List.setIfInBounds_toArray]); (try simp only [List.set_cons_succ]); (try simp only [List.set_cons_zero])
                          refine wpAnyH_take (i := 20) (v := ?v60) rfl (by kernel_rfl) (by kernel_rfl) (by kernel_rfl) (fun _ _ _ h => h) (Or.inl ⟨by rfl, ?hy60⟩) hHeld ?rest60
                          case hy60 => (intro w hSw; (try dsimp only at hSw); (try go_split_ands); go_simp; first | done | with_reducible rfl)
                          (try simp only [List.getElem_toArray]); (try simp only [List.getElem_cons_succ]); (try simp only [List.getElem_cons_zero]); (try simp only [Act.put]); (try simp only [List.setIfInBounds_toArray]); (try simp only [List.set_cons_succ]); (try simp only [List.set_cons_zero])
                          refine wpAnyH_done (by kernel_rfl) ?_ _
                          go_wp2_with fail
                          go_meet
                          exact ⟨rfl, S42⟩
                        case rest =>
                          obtain ⟨rfl, S41⟩ := hcut
                          generalize wc = W41 at *
                          by_cases h9 : y.opn = c9
                          · have i91 : (y.opn == c9) = true := by simpa using h9
                            have i92 : decide (y.opn = c9) = true := decide_eq_true h9
                            have i93 : (y.opn != c9) = false := by simpa using h9
                            have HYY := Lib.hid (YES.out (by rw [HOP.out, i92, Bool.or_true]))
                            clear h9
                            go_wp2_with fail
                            go_roundw
                            case rel => exact ⟨m + 1, by go_num, hlt, S41, HYY⟩
                            case measure => simp [RowKit.intOf]; omega
                          · have i91 : (y.opn == c9) = false := by simpa using h9
                            have i92 : decide (y.opn = c9) = false := decide_eq_false h9
                            have i93 : (y.opn != c9) = true := by simpa using h9
                            have HN := Lib.hid (NOM.out (by rw [HOP.out, i92, i02]; rfl))
                            clear h9
                            go_wp2_with fail
                            go_ret
                            exact ⟨by rw [HN.out]; rfl, S41.out.bel⟩
                    · have iL4 : decide (m < k.l.length) = false := decide_eq_false (by omega)
                      have iM4 : decide ((m : Int) < (k.l.length : Int)) = false := decide_eq_false (by omega)
                      have HYY : Hid (rightK k = true) := Lib.hid (by rw [HO2.out]; unfold openedB; rw [List.all_eq_true.2 HDA.out, List.all_eq_true.2 fun q hq => HOQ.out q (by have := List.mem_range.1 hq; omega)]; rfl)
                      obtain ⟨k0, -, -, -, -, -⟩ := cells6 (S40.out.at 0 rfl)
                      go_wp2_with fail
                      go_ret
                      exact ⟨by rw [HYY.out]; rfl, S40.out.bel⟩
end Go.Proofs.YtinoogmaikhpjaaGreatDoor
