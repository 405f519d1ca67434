/-
  A lock changes nobody else's: FlockKeeps.
-/
import Derived.Test.YtfcjmcenaankfaaLaw11A
import Derived.Test.YtfcjmcenaankfaaFlkLaws
import Derived.Test.YtfcjmcenaankfaaLaw11B
namespace Go.Proofs.Ytfcjmcenaankfaa
open Go.RowKit Go.Shelf
attribute [local go_sem ↓] Go.wp_at_zero Go.wp_at_succ

set_option maxRecDepth 100000 in
set_option maxHeartbeats 4000000 in
theorem keeps_l (pc : PF) (t : TabL) (i kind : Int) (ad af : Option Addr) (cap capf : Nat) (w : World) (hT : TabX t (.slice ad t.ds.length cap) (.slice af t.fs.length capf) (fun _ => False) w) :
    Calls Try.prog 8 #[tabV ad t.ds.length cap af t.fs.length capf, .int .i64 i, .int .i64 kind] w fun e w' => e = .returned (.bool true) ∧ Below w.heap.size w w' := by
  have S0 := Lib.hid (Sf.start (G := [TabX t (.slice ad t.ds.length cap) (.slice af t.fs.length capf)]) (fun _ h => h.elim) (th1 (TabX.firm _ _ _) hT))
  clear hT
  have hgd := eqDescWG
  go_enter Try.func8, Try.ntmps8
  go_upto_region 1 with (fail)
  refine code_fresh1 ?_
  intro W1 hb hA0 hs
  have S1 := Lib.hid (S0.out.new1 hb hA0)
  clear hb hA0 hs
  have h_d := (S1.out.at 0 rfl)
  go_wp2_with (first | (refine wpList_load_row rfl 25 _ rfl _ rfl 25 _ (0, 0) _ h_d Try.underlying25 rfl (by kernel_rfl) ?_) | (refine wpList_load_rowG rfl 25 _ rfl _ rfl 25 _ (0, 0) _ h_d Try.underlying25 rfl (by kernel_rfl) ?_))
  refine (fine_c _ t _ _ _ _ _ S1.out.oldX (S1.out.g 0 rfl)).mono ?_
  rintro e W2 ⟨rfl, hb⟩
  clear h_d
  have S2 := Lib.hid (S1.out.call hb)
  clear hb
  cases hfb : fineB t with
  | false =>
    clear hfb
    go_wp2_with fail
    refine (pc.shown W2).mono ?_
    rintro e W3 ⟨rfl, hb⟩
    have S3 := Lib.hid (S2.out.call hb)
    clear hb
    go_wp2_with fail
    go_ret
    exact ⟨rfl, S3.out.bel⟩
  | true =>
    have HFB := Lib.hid (fine_B.1 hfb)
    have HSZ := Lib.hid (size_T HFB.out.1 (by decide))
    clear hfb
    go_wp2_with fail
    refine (pc.shown W2).mono ?_
    rintro e W3 ⟨rfl, hb⟩
    have S3 := Lib.hid (S2.out.call hb)
    clear hb
    go_upto_region 3 with (fail)
    have h_d := (S3.out.at 0 rfl)
    go_wp2_with (first | (refine wpList_load_row rfl 25 _ rfl _ rfl 25 _ (0, 0) _ h_d Try.underlying25 rfl (by kernel_rfl) ?_) | (refine wpList_load_rowG rfl 25 _ rfl _ rfl 25 _ (0, 0) _ h_d Try.underlying25 rfl (by kernel_rfl) ?_))
    refine (pc.lock _ t i kind _ _ _ _ W3 S3.out.oldX (S3.out.g 0 rfl) HSZ.out HFB.out.2).mono ?_
    rintro e W4 ⟨vd4, vf4, rfl, hT4, hb⟩
    obtain ⟨ad4, cap4, af4, capf4, rfl, rfl⟩ := hT4.form
    clear h_d
    obtain ⟨ta, hta⟩ : ∃ ta, ta = (lockT t i kind).1 := ⟨_, rfl⟩
    rw [← hta] at hT4 ⊢
    obtain ⟨ta1, hta1⟩ : ∃ ta1, ta1 = (lockT t i kind).2 := ⟨_, rfl⟩
    rw [← hta1]
    have Hta1 := Lib.hid hta1
    clear hta1
    have Hta := Lib.hid hta
    have S4 := Lib.hid ((S3.out.call hb).more (TabX.firm _ _ _) hT4)
    clear hta hb hT4
    go_upto_region 4 with (fail)
    refine code_fresh1 ?_
    intro W5 hb hA0 hs
    have S5 := Lib.hid (S4.out.new1 hb hA0)
    clear hb hA0 hs
    have HL := Lib.hid (show ta.ds.length = t.ds.length by rw [Hta.out]; exact lock_len t i kind)
    have hl0 := HL.out
    have z1 : ((ta.ds.length : Int) != (t.ds.length : Int)) = false := by simp; omega
    have z2 : ((ta.ds.length : Int) == (t.ds.length : Int)) = true := by simp; omega
    have z3 : decide ((ta.ds.length : Int) = (t.ds.length : Int)) = true := decide_eq_true (by omega)
    have z4 : decide (ta.ds.length = t.ds.length) = true := decide_eq_true (by omega)
    have z5 : (ta.ds.length == t.ds.length) = true := by simp; omega
    clear hl0
    obtain ⟨a0, a1⟩ := cells2 (S5.out.at 1 rfl)
    obtain ⟨d0, d1⟩ := cells2 (S5.out.at 0 rfl)
    go_wp2_with fail
    clear z1 z2 z3 z4 z5
    go_loopw [9] (fun j wr => ∃ k : Nat, j = .int .i64 k ∧ k ≤ t.ds.length ∧ Hid (Sf (fun _ => False) w [(w.heap.size, #[.slice ad t.ds.length cap, .slice af t.fs.length capf], 25), (W4.heap.size, #[.slice ad4 ta.ds.length cap4, .slice af4 ta.fs.length capf4], 25)] [TabX t (.slice ad t.ds.length cap) (.slice af t.fs.length capf), TabX ta (.slice ad4 ta.ds.length cap4) (.slice af4 ta.fs.length capf4)] wr)) (fun j _ => t.ds.length - (RowKit.intOf j).toNat)
    case atStart => exact ⟨0, rfl, Nat.zero_le _, S5⟩
    case round =>
      clear S5 a0 a1 d0 d1
      obtain ⟨k, rfl, hk, S9⟩ := hrel
      have hl1 : t.ds.length ≤ 1000 := HSZ.out.1
      by_cases hlt : k < t.ds.length
      · have iL7 : decide (k < t.ds.length) = true := decide_eq_true (by omega)
        have iM7 : decide ((k : Int) < (t.ds.length : Int)) = true := decide_eq_true (by omega)
        have k0 : (0 : Int) ≤ (k : Int) := by omega
        have k1 : (k : Int) < (t.ds.length : Int) := by omega
        have wk : IntKind.i64.wrap ((k : Int) + 1) = (k : Int) + 1 := Go.IntWalk.i64_in _ (by omega)
        have hka : k < ta.ds.length := by rw [HL.out]; exact hlt
        have k2 : (k : Int) < (ta.ds.length : Int) := by omega
        obtain ⟨b1, off1, ead1, cY⟩ := TabX.range (S9.out.g 0 rfl) k hlt
        subst ead1
        obtain ⟨b2, off2, ead2, cV⟩ := TabX.range (S9.out.g 1 rfl) k hka
        subst ead2
        have HKP := Lib.hid (show (((k : Int) ≠ i → ta.ds[k] = t.ds[k]) ∧ withL ta.ds[k] (t.ds[k]).lock = t.ds[k]) from (by have h := fun (u : TabL) (e : u = (lockT t i kind).1) (h1 : k < u.ds.length) => (show ((k : Int) ≠ i → u.ds[k] = t.ds[k]) ∧ withL u.ds[k] (t.ds[k]).lock = t.ds[k] by subst e; exact keeps_lock t i kind hlt h1); exact h ta Hta.out hka))
        obtain ⟨y, hy⟩ : ∃ y, y = t.ds[k] := ⟨_, rfl⟩
        obtain ⟨v, hv⟩ : ∃ v, v = ta.ds[k] := ⟨_, rfl⟩
        rw [← hy] at cY HKP
        rw [← hv] at cV HKP
        have HY := Lib.hid hy
        clear hy hv
        obtain ⟨a0, a1⟩ := cells2 (S9.out.at 1 rfl)
        obtain ⟨d0, d1⟩ := cells2 (S9.out.at 0 rfl)
        go_upto_region 10 with (first | (refine wpList_load_mid rfl 44 _ rfl _ (off2 + k * 6) rfl _ _ cV Try.underlying44 rfl (by kernel_rfl) ?_) | (refine wpList_fresh1 ?_; intro W11 hb hn hs; have S11 := Lib.hid (S9.out.new1 hb hn); have h_x := S11.out.at 2 rfl; clear hb hn hs) | (refine wpList_store_row rfl 44 _ _ rfl _ rfl rfl h_x rfl (by kernel_rfl) rfl ?_; intro W12 hb hg hs hn; have S12 := Lib.hid (S11.out.set 2 rfl hb hg hs hn); clear hb hg hs hn))
        clear cV
        clear a0 a1 d0 d1
        obtain ⟨bx, hbx⟩ : ∃ bx, bx = wr.heap.size := ⟨_, rfl⟩
        rw [← hbx] at S12 ⊢
        clear hbx
        by_cases h1 : (k : Int) = i
        · have hv2 := HKP.out.2
          have HV2 := Lib.hid hv2
          clear hv2
          subst h1
          obtain ⟨b4, off4, ead4, -, -, -, -, -, c5⟩ := TabX.desc (S12.out.g 0 rfl) k hlt
          injection ead4 with ead4
          injection ead4 with eb4 eo4
          subst eb4
          subst eo4
          rw [← HY.out] at c5
          obtain ⟨d0, d1⟩ := cells2 (S12.out.at 0 rfl)
          obtain ⟨-, -, -, -, -, x5⟩ := cells6 (S12.out.at 2 rfl)
          have fx := fun j => Lib.frozen_of_heap (S12.out.at 2 rfl) j
          go_upto_region 12 with (fail)
          clear c5 cY
          clear d0 d1 x5 fx
          refine code_set1 (S12.out.at 2 rfl) ?_
          intro W13 hb hg hs hn
          have S13 := Lib.hid (S12.out.set 2 rfl hb hg hs hn)
          clear hb hg hs hn
          have h_x : W13.heap[bx]? = some (.cells #[.int .i64 (withL v y.lock).ino, .int .i64 (withL v y.lock).pos, .bool (withL v y.lock).rd, .bool (withL v y.lock).wr, .int .i64 (withL v y.lock).refs, .int .i64 (withL v y.lock).lock] 44 (0, 0)) := S13.out.at 2 rfl
          rw [HV2.out] at h_x
          have HXX := Lib.hid h_x
          clear h_x
          have S90 : Hid (Sf (fun _ => False) w [(w.heap.size, #[.slice (some ⟨b1, off1, none⟩) t.ds.length cap, .slice af t.fs.length capf], 25), (W4.heap.size, #[.slice (some ⟨b2, off2, none⟩) ta.ds.length cap4, .slice af4 ta.fs.length capf4], 25), (bx, #[.int .i64 y.ino, .int .i64 y.pos, .bool y.rd, .bool y.wr, .int .i64 y.refs, .int .i64 y.lock], 44)] [TabX t (.slice (some ⟨b1, off1, none⟩) t.ds.length cap) (.slice af t.fs.length capf), TabX ta (.slice (some ⟨b2, off2, none⟩) ta.ds.length cap4) (.slice af4 ta.fs.length capf4)] W13) := Lib.hid (by have h := S13.out; have e : ((bx, #[.int .i64 (withL v y.lock).ino, .int .i64 (withL v y.lock).pos, .bool (withL v y.lock).rd, .bool (withL v y.lock).wr, .int .i64 (withL v y.lock).refs, .int .i64 (withL v y.lock).lock], 44) : Bl) = (bx, #[.int .i64 y.ino, .int .i64 y.pos, .bool y.rd, .bool y.wr, .int .i64 y.refs, .int .i64 y.lock], 44) := (by rw [HV2.out]); exact Eq.mp (congrArg (fun b : Bl => Sf (fun _ => False) w [(w.heap.size, #[.slice (some ⟨b1, off1, none⟩) t.ds.length cap, .slice af t.fs.length capf], 25), (W4.heap.size, #[.slice (some ⟨b2, off2, none⟩) ta.ds.length cap4, .slice af4 ta.fs.length capf4], 25), b] [TabX t (.slice (some ⟨b1, off1, none⟩) t.ds.length cap) (.slice af t.fs.length capf), TabX ta (.slice (some ⟨b2, off2, none⟩) ta.ds.length cap4) (.slice af4 ta.fs.length capf4)] W13) e) h)
          have heq : ∀ w, (Op.equalIn 10000 44 (.agg #[.int .i64 y.ino, .int .i64 y.pos, .bool y.rd, .bool y.wr, .int .i64 y.refs, .int .i64 y.lock]) (.agg #[.int .i64 y.ino, .int .i64 y.pos, .bool y.rd, .bool y.wr, .int .i64 y.refs, .int .i64 y.lock])).run Try.prog w = .ok (decide (y = y)) w := fun w => eqDescW y y w
          have hyy : decide (y = y) = true := decide_eq_true rfl
          obtain ⟨b3, off3, ead3, cY2⟩ := TabX.range (S90.out.g 0 rfl) k hlt
          injection ead3 with ead3
          injection ead3 with eb3 eo3
          subst eb3
          subst eo3
          rw [← HY.out] at cY2
          have h_x := (S90.out.at 2 rfl)
          refine wp_region_held_drew (S := fun W => W.heap[bx]? = some (.cells #[.int .i64 y.ino, .int .i64 y.pos, .bool y.rd, .bool y.wr, .int .i64 y.refs, .int .i64 y.lock] 44 (0, 0)) ∧ W.cell? ⟨w.heap.size, 0, none⟩ = some (.slice (some ⟨b1, off1, none⟩) t.ds.length cap) ∧ W.rangeAt b1 (off1 + k * 6) [.int .i64 y.ino, .int .i64 y.pos, .bool y.rd, .bool y.wr, .int .i64 y.refs, .int .i64 y.lock] ∧ True) (by kernel_rfl) ⟨(S90.out.at 2 rfl), (cells2 (S90.out.at 0 rfl)).1, cY2, trivial⟩ (fun hHeld => ?_)
          clear h_x
          have S14 := Lib.hid (S90.out.call (Below.refl W13.heap.size W13).drew)
          generalize W13.drew = W14 at *
          refine wpAnyH_take (i := 0) rfl (by kernel_rfl) (by kernel_rfl) (by kernel_rfl) (fun _ _ _ h => h) (yieldsIf_load_row (by rfl) 44 _ rfl _ rfl 44 _ (0, 0) _ (fun _ h => h.1) Try.underlying44 rfl (by kernel_rfl)) hHeld ?_
          (try simp only [List.getElem_toArray]); (try simp only [List.getElem_cons_succ]); (try simp only [List.getElem_cons_zero]); (try simp only [Act.put]); (try simp only [List.setIfInBounds_toArray]); (try simp only [List.set_cons_succ]); (try simp only [List.set_cons_zero])
          refine wpAnyH_take (i := 1) (v := ?v1) rfl (by kernel_rfl) (by kernel_rfl) (by kernel_rfl) (fun _ _ _ h => h) (Or.inl ⟨by rfl, ?hy1⟩) hHeld ?rest1
          case hy1 => (intro w hSw; (try dsimp only at hSw); (try go_split_ands); go_simp; first | done | with_reducible rfl)
          (try simp only [List.getElem_toArray]); (try simp only [List.getElem_cons_succ]); (try simp only [List.getElem_cons_zero]); (try simp only [Act.put]); (try simp only [List.setIfInBounds_toArray]); (try simp only [List.set_cons_succ]); (try simp only [List.set_cons_zero])
          refine wpAnyH_take (i := 2) (v := ?v2) rfl (by kernel_rfl) (by kernel_rfl) (by kernel_rfl) (fun _ _ _ h => h) (Or.inl ⟨by rfl, ?hy2⟩) hHeld ?rest2
          case hy2 => (intro w hSw; (try dsimp only at hSw); (try go_split_ands); go_simp; first | done | with_reducible rfl)
          (try simp only [List.getElem_toArray]); (try simp only [List.getElem_cons_succ]); (try simp only [List.getElem_cons_zero]); (try simp only [Act.put]); (try simp only [List.setIfInBounds_toArray]); (try simp only [List.set_cons_succ]); (try simp only [List.set_cons_zero])
          refine wpAnyH_take (i := 3) (v := ?v3) rfl (by kernel_rfl) (by kernel_rfl) (by kernel_rfl) (fun _ _ _ h => h) (Or.inl ⟨by rfl, ?hy3⟩) hHeld ?rest3
          case hy3 => (intro w hSw; (try dsimp only at hSw); (try go_split_ands); go_simp; first | done | with_reducible rfl)
          (try simp only [List.getElem_toArray]); (try simp only [List.getElem_cons_succ]); (try simp only [List.getElem_cons_zero]); (try simp only [Act.put]); (try simp only [List.setIfInBounds_toArray]); (try simp only [List.set_cons_succ]); (try simp only [List.set_cons_zero])
          refine wpAnyH_take (i := 4) (v := ?v4) rfl (by kernel_rfl) (by kernel_rfl) (by kernel_rfl) (fun _ _ _ h => h) (Or.inl ⟨by rfl, ?hy4⟩) hHeld ?rest4
          case hy4 => (intro w hSw; (try dsimp only at hSw); (try go_split_ands); go_simp; first | done | with_reducible rfl)
          (try simp only [List.getElem_toArray]); (try simp only [List.getElem_cons_succ]); (try simp only [List.getElem_cons_zero]); (try simp only [Act.put]); (try simp only [List.setIfInBounds_toArray]); (try simp only [List.set_cons_succ]); (try simp only [List.set_cons_zero])
          refine wpAnyH_take (i := 5) rfl (by kernel_rfl) (by kernel_rfl) (by kernel_rfl) (fun _ _ _ h => h) (yieldsIf_load_mid (by rfl) 44 _ rfl _ (off1 + k * 6) rfl _ _ (fun _ h => h.2.2.1) Try.underlying44 rfl (by kernel_rfl)) hHeld ?_
          (try simp only [List.getElem_toArray]); (try simp only [List.getElem_cons_succ]); (try simp only [List.getElem_cons_zero]); (try simp only [Act.put]); (try simp only [List.setIfInBounds_toArray]); (try simp only [List.set_cons_succ]); (try simp only [List.set_cons_zero])
          refine wpAnyH_take (i := 6) (v := ?v5) rfl (by kernel_rfl) (by kernel_rfl) (by kernel_rfl) (fun _ _ _ h => h) (Or.inl ⟨by rfl, ?hy5⟩) hHeld ?rest5
          case hy5 => (intro w hSw; (try dsimp only at hSw); (try go_split_ands); go_simp; first | done | with_reducible rfl)
          (try simp only [List.getElem_toArray]); (try simp only [List.getElem_cons_succ]); (try simp only [List.getElem_cons_zero]); (try simp only [Act.put]); (try simp only [List.setIfInBounds_toArray]); (try simp only [List.set_cons_succ]); (try simp only [List.set_cons_zero])
          refine wpAnyH_done (by kernel_rfl) ?_ _
          clear heq hyy
          go_wp2_with fail
          go_roundw
          case rel => exact ⟨k + 1, by go_num, hlt, Lib.hid (S14.out.leave (by simp))⟩
          case measure => simp [RowKit.intOf]; omega
        · have hv1 : y = v := (HKP.out.1 h1).symm
          subst hv1
          have j1 : ((k : Int) == i) = false := by simpa using h1
          have j2 : decide ((k : Int) = i) = false := decide_eq_false h1
          have j3 : ((k : Int) != i) = true := by simpa using h1
          clear cY HKP h1
          go_upto_region 12 with (fail)
          have heq : ∀ w, (Op.equalIn 10000 44 (.agg #[.int .i64 y.ino, .int .i64 y.pos, .bool y.rd, .bool y.wr, .int .i64 y.refs, .int .i64 y.lock]) (.agg #[.int .i64 y.ino, .int .i64 y.pos, .bool y.rd, .bool y.wr, .int .i64 y.refs, .int .i64 y.lock])).run Try.prog w = .ok (decide (y = y)) w := fun w => eqDescW y y w
          have hyy : decide (y = y) = true := decide_eq_true rfl
          obtain ⟨b3, off3, ead3, cY2⟩ := TabX.range (S12.out.g 0 rfl) k hlt
          injection ead3 with ead3
          injection ead3 with eb3 eo3
          subst eb3
          subst eo3
          rw [← HY.out] at cY2
          have h_x := (S12.out.at 2 rfl)
          refine wp_region_held_drew (S := fun W => W.heap[bx]? = some (.cells #[.int .i64 y.ino, .int .i64 y.pos, .bool y.rd, .bool y.wr, .int .i64 y.refs, .int .i64 y.lock] 44 (0, 0)) ∧ W.cell? ⟨w.heap.size, 0, none⟩ = some (.slice (some ⟨b1, off1, none⟩) t.ds.length cap) ∧ W.rangeAt b1 (off1 + k * 6) [.int .i64 y.ino, .int .i64 y.pos, .bool y.rd, .bool y.wr, .int .i64 y.refs, .int .i64 y.lock] ∧ True) (by kernel_rfl) ⟨(S12.out.at 2 rfl), (cells2 (S12.out.at 0 rfl)).1, cY2, trivial⟩ (fun hHeld => ?_)
          clear h_x
          have S13 := Lib.hid (S12.out.call (Below.refl W12.heap.size W12).drew)
          generalize W12.drew = W13 at *
          refine wpAnyH_take (i := 0) rfl (by kernel_rfl) (by kernel_rfl) (by kernel_rfl) (fun _ _ _ h => h) (yieldsIf_load_row (by rfl) 44 _ rfl _ rfl 44 _ (0, 0) _ (fun _ h => h.1) Try.underlying44 rfl (by kernel_rfl)) hHeld ?_
          (try simp only [List.getElem_toArray]); (try simp only [List.getElem_cons_succ]); (try simp only [List.getElem_cons_zero]); (try simp only [Act.put]); (try simp only [List.setIfInBounds_toArray]); (try simp only [List.set_cons_succ]); (try simp only [List.set_cons_zero])
          refine wpAnyH_take (i := 1) (v := ?v6) rfl (by kernel_rfl) (by kernel_rfl) (by kernel_rfl) (fun _ _ _ h => h) (Or.inl ⟨by rfl, ?hy6⟩) hHeld ?rest6
          case hy6 => (intro w hSw; (try dsimp only at hSw); (try go_split_ands); go_simp; first | done | with_reducible rfl)
          (try simp only [List.getElem_toArray]); (try simp only [List.getElem_cons_succ]); (try simp only [List.getElem_cons_zero]); (try simp only [Act.put]); (try simp only [List.setIfInBounds_toArray]); (try simp only [List.set_cons_succ]); (try simp only [List.set_cons_zero])
          refine wpAnyH_take (i := 2) (v := ?v7) rfl (by kernel_rfl) (by kernel_rfl) (by kernel_rfl) (fun _ _ _ h => h) (Or.inl ⟨by rfl, ?hy7⟩) hHeld ?rest7
          case hy7 => (intro w hSw; (try dsimp only at hSw); (try go_split_ands); go_simp; first | done | with_reducible rfl)
          (try simp only [List.getElem_toArray]); (try simp only [List.getElem_cons_succ]); (try simp only [List.getElem_cons_zero]); (try simp only [Act.put]); (try simp only [List.setIfInBounds_toArray]); (try simp only [List.set_cons_succ]); (try simp only [List.set_cons_zero])
          refine wpAnyH_take (i := 3) (v := ?v8) rfl (by kernel_rfl) (by kernel_rfl) (by kernel_rfl) (fun _ _ _ h => h) (Or.inl ⟨by rfl, ?hy8⟩) hHeld ?rest8
          case hy8 => (intro w hSw; (try dsimp only at hSw); (try go_split_ands); go_simp; first | done | with_reducible rfl)
          (try simp only [List.getElem_toArray]); (try simp only [List.getElem_cons_succ]); (try simp only [List.getElem_cons_zero]); (try simp only [Act.put]); (try simp only [List.setIfInBounds_toArray]); (try simp only [List.set_cons_succ]); (try simp only [List.set_cons_zero])
          refine wpAnyH_take (i := 4) (v := ?v9) rfl (by kernel_rfl) (by kernel_rfl) (by kernel_rfl) (fun _ _ _ h => h) (Or.inl ⟨by rfl, ?hy9⟩) hHeld ?rest9
          case hy9 => (intro w hSw; (try dsimp only at hSw); (try go_split_ands); go_simp; first | done | with_reducible rfl)
          (try simp only [List.getElem_toArray]); (try simp only [List.getElem_cons_succ]); (try simp only [List.getElem_cons_zero]); (try simp only [Act.put]); (try simp only [List.setIfInBounds_toArray]); (try simp only [List.set_cons_succ]); (try simp only [List.set_cons_zero])
          refine wpAnyH_take (i := 5) rfl (by kernel_rfl) (by kernel_rfl) (by kernel_rfl) (fun _ _ _ h => h) (yieldsIf_load_mid (by rfl) 44 _ rfl _ (off1 + k * 6) rfl _ _ (fun _ h => h.2.2.1) Try.underlying44 rfl (by kernel_rfl)) hHeld ?_
          (try simp only [List.getElem_toArray]); (try simp only [List.getElem_cons_succ]); (try simp only [List.getElem_cons_zero]); (try simp only [Act.put]); (try simp only [List.setIfInBounds_toArray]); (try simp only [List.set_cons_succ]); (try simp only [List.set_cons_zero])
          refine wpAnyH_take (i := 6) (v := ?v10) rfl (by kernel_rfl) (by kernel_rfl) (by kernel_rfl) (fun _ _ _ h => h) (Or.inl ⟨by rfl, ?hy10⟩) hHeld ?rest10
          case hy10 => (intro w hSw; (try dsimp only at hSw); (try go_split_ands); go_simp; first | done | with_reducible rfl)
          (try simp only [List.getElem_toArray]); (try simp only [List.getElem_cons_succ]); (try simp only [List.getElem_cons_zero]); (try simp only [Act.put]); (try simp only [List.setIfInBounds_toArray]); (try simp only [List.set_cons_succ]); (try simp only [List.set_cons_zero])
          refine wpAnyH_done (by kernel_rfl) ?_ _
          clear heq hyy
          go_wp2_with fail
          go_roundw
          case rel => exact ⟨k + 1, by go_num, hlt, Lib.hid (S13.out.leave (by simp))⟩
          case measure => simp [RowKit.intOf]; omega
      · have iL7 : decide (k < t.ds.length) = false := decide_eq_false (by omega)
        have iM7 : decide ((k : Int) < (t.ds.length : Int)) = false := decide_eq_false (by omega)
        clear hlt
        obtain ⟨d0, -⟩ := cells2 (S9.out.at 0 rfl)
        go_wp2_with fail
        go_ret
        exact ⟨rfl, S9.out.bel⟩
end Go.Proofs.Ytfcjmcenaankfaa
