/-
  The document's Open.
-/
import Derived.Test.YtbcmhjgjcknfmaaHdlRefC
namespace Go.Proofs.Ytbcmhjgjcknfmaa
open Go.RowKit Go.Shelf
attribute [local go_sem ↓] Go.wp_at_zero Go.wp_at_succ

/-- A description more. -/
theorem OwnT.addD {tD tS tI : TypeId} {base : Nat} {ds ds' : List DescL} {fs : List (List Int)} {vd vd' vf : Value} {rows : List RowV} {W W' : World} (h : OwnT tD tS tI base ⟨ds, fs⟩ vd vf rows W) (hd : W'.ownsRow base tD 6 vd' ds'.length (cellsD ds')) (hg : W.grownBy W' vd.ownBlock) (hS : tS ≠ tD) (hI : tI ≠ tD) : OwnT tD tS tI base ⟨ds', fs⟩ vd' vf rows W' := by
  have keep : ∀ {e : TypeId} {s n : Nat} {u : Value} {xs : List Value}, W.ownsRow base e s u n xs → e ≠ tD → W'.ownsRow base e s u n xs := fun h' he => by
    refine ⟨h'.1, h'.2.imp id ?_⟩
    rintro ⟨g', cap, cur, rfl, k1, k2, k3⟩
    refine ⟨g', cap, cur, rfl, k1, (hg.block g' (Array.getElem?_eq_some_iff.1 k2).1 fun e => ?_).trans k2, k3⟩
    exact own_ne h.ds h' (Ne.symm he) g' e.symm rfl
  exact ⟨h.fs, hd, keep h.out hS, fun m hm => keep (h.row m hm) hI, h.apart⟩
theorem free_next {ds : List DescL} {j : Nat} (hj : j < ds.length) (h1 : j ≤ freeD ds) (h2 : 0 < ds[j].refs) : j + 1 ≤ freeD ds := by
  rcases Nat.lt_or_ge j (freeD ds) with h | h
  · exact h
  · have e : freeD ds = j := by omega
    have h3 := free_lt (ds := ds) (by omega)
    simp only [e] at h3
    omega
theorem free_here {ds : List DescL} {j : Nat} (hj : j < ds.length) (h1 : j ≤ freeD ds) (h2 : ds[j].refs ≤ 0) : freeD ds = j := by
  rcases Nat.lt_or_ge j (freeD ds) with h | h
  · have h3 := List.not_of_lt_findIdx (p := fun d : DescL => decide (d.refs ≤ 0)) (xs := ds) h
    exact absurd (decide_eq_true h2) (by simpa using h3)
  · omega
set_option maxRecDepth 100000 in
set_option maxHeartbeats 4000000 in
theorem ropenH_c (X : Nat → Prop) (t : TabL) (p : Int) (x : DescL) (ad af : Option Addr) (cap capf : Nat) (w : World) (hX : Old X w) (hT : TabX t (.slice ad t.ds.length cap) (.slice af t.fs.length capf) X w) (hz : SizeT t) :
    Calls Try.prog 14 #[tabV ad t.ds.length cap af t.fs.length capf, .int .i64 p, dvalD x] w fun e w' => TabIs2 X (openT t p x).1 (.int .i64 (openT t p x).2.1) (openT t p x).2.2 e w w' := by
  have S0 := Lib.hid (Sf.start (G := [TabX t (.slice ad t.ds.length cap) (.slice af t.fs.length capf)]) hX (th1 (TabX.firm _ _ _) hT))
  have H0 := Lib.hid hT
  have HZ := Lib.hid hz
  have HRET : Hid (∀ (W : World) (cs : Array Value) (fr), W.heap[w.heap.size + 2]? = some (.cells cs 32 fr) → cs.size = 2 → ∀ tmps : Array Value, tmps.getD 6 undef = .pointer (some ⟨w.heap.size + 2, 0, none⟩) → (results Try.f14 tmps).run Try.prog W = .ok (.tuple #[.agg cs, tmps.getD 7 undef, tmps.getD 8 undef]) W) := Lib.hid fun W cs fr h hs tmps ht =>
  results_ctt (p := 6) (u := 7) (v := 8) (ty := 32) rfl tmps W (w.heap.size + 2) _ cs fr _ ht h Try.underlying32 rfl (by rw [hs]; kernel_rfl)
  have HOLD := Lib.hid hX
  obtain ⟨iD, hD, hDz, hDs, hDb⟩ := info_parts infoDescR
  clear hX hT hz
  go_enter Try.func14, Try.ntmps14
  go_upto_region 1 with (fail)
  refine code_fresh3 ?_
  intro W1 hb hA0 hA1 hA2 hs
  have S1 := Lib.hid (S0.out.new3 hb hA0 hA1 hA2)
  clear hb hA0 hA1 hA2 hs
  obtain ⟨d0, d1⟩ := cells2 (S1.out.at 0 rfl)
  by_cases h1 : p < 0
  · have i1 : decide (p < 0) = true := decide_eq_true h1
    have HR : Hid (openT t p x = (t, 0, 1)) := Lib.hid (if_pos (by unfold inT; rw [decide_eq_false (show ¬ 0 ≤ p by omega)]; rfl))
    go_upto_region 2 with (fail)
    clear d0 d1
    have h_r := (S1.out.at 2 rfl)
    have h_d := (S1.out.at 0 rfl)
    go_wp2_with (first | (refine wpList_load_row rfl 32 _ rfl _ rfl 32 _ (0, 0) _ h_d Try.underlying32 rfl (by kernel_rfl) ?_) | (refine wpList_store_row rfl 32 _ _ rfl _ rfl rfl h_r rfl (by kernel_rfl) rfl ?_; intro W2 hb hg hs hn; have S2 := Lib.hid (S1.out.set 2 rfl hb hg hs hn); clear hb hg hs hn))
    refine bodyPost_ret (HRET.out _ _ _ (S2.out.at 2 rfl) rfl _ rfl) rfl ?_
    rw [HR.out]
    exact ⟨_, _, rfl, S2.out.gX 0 rfl, S2.out.bel⟩
  · have i1 : decide (p < 0) = false := decide_eq_false h1
    by_cases h2 : (t.fs.length : Int) ≤ p
    · have i2 : decide ((t.fs.length : Int) ≤ p) = true := decide_eq_true h2
      have HR : Hid (openT t p x = (t, 0, 1)) := Lib.hid (if_pos (by unfold inT; rw [decide_eq_false (show ¬ p < (t.fs.length : Int) by omega)]; simp))
      go_upto_region 2 with (fail)
      clear d0 d1
      have h_r := (S1.out.at 2 rfl)
      have h_d := (S1.out.at 0 rfl)
      go_wp2_with (first | (refine wpList_load_row rfl 32 _ rfl _ rfl 32 _ (0, 0) _ h_d Try.underlying32 rfl (by kernel_rfl) ?_) | (refine wpList_store_row rfl 32 _ _ rfl _ rfl rfl h_r rfl (by kernel_rfl) rfl ?_; intro W2 hb hg hs hn; have S2 := Lib.hid (S1.out.set 2 rfl hb hg hs hn); clear hb hg hs hn))
      refine bodyPost_ret (HRET.out _ _ _ (S2.out.at 2 rfl) rfl _ rfl) rfl ?_
      rw [HR.out]
      exact ⟨_, _, rfl, S2.out.gX 0 rfl, S2.out.bel⟩
    · have i2 : decide ((t.fs.length : Int) ≤ p) = false := decide_eq_false h2
      obtain ⟨a, rfl⟩ := Int.eq_ofNat_of_zero_le (show 0 ≤ p by omega)
      have i21 : decide (t.fs.length ≤ a) = false := decide_eq_false (by omega)
      have ha : a < t.fs.length := by omega
      have p0 : (0 : Int) ≤ (a : Int) := by omega
      have p1 : (a : Int) < (t.fs.length : Int) := by omega
      have HR0 : Hid (openT t (a : Int) x = if (rowT t a).length ≤ firstR (rowT t a) then (t, 0, 13) else (⟨putD1 t.ds (freeD t.ds) { x with refs := 1 }, putF t.fs a (firstR (rowT t a)) (freeD t.ds : Nat)⟩, ((firstR (rowT t a) : Nat) : Int), 0)) := Lib.hid (if_neg (by unfold inT; rw [decide_eq_true (show (0 : Int) ≤ (a : Int) by omega), decide_eq_true (show (a : Int) < (t.fs.length : Int) by omega)]; decide))
      clear h1 h2
      go_upto_region 3 with (fail)
      clear d0 d1
      have h_d := (S1.out.at 0 rfl)
      go_wp2_with (first | (refine wpList_load_row rfl 32 _ rfl _ rfl 32 _ (0, 0) _ h_d Try.underlying32 rfl (by kernel_rfl) ?_))
      by_cases hfr : (rowT t a).length ≤ firstR (rowT t a)
      · have HF := Lib.hid (first_F (t := t) (a := a) (by omega))
        have HR := Lib.hid (HR0.out.trans (if_pos hfr))
        refine (rfirst_c t _ _ _ _ _ (S1.out.g 0 rfl) a ha HZ.out).mono ?_
        rintro e W2 ⟨rfl, hb⟩
        clear h_d
        have S2 := Lib.hid (S1.out.call hb)
        rw [HF.out]
        clear hb
        have h_r := (S2.out.at 2 rfl)
        have h_d := (S2.out.at 0 rfl)
        go_wp2_with (first | (refine wpList_load_row rfl 32 _ rfl _ rfl 32 _ (0, 0) _ h_d Try.underlying32 rfl (by kernel_rfl) ?_) | (refine wpList_store_row rfl 32 _ _ rfl _ rfl rfl h_r rfl (by kernel_rfl) rfl ?_; intro W3 hb hg hs hn; have S3 := Lib.hid (S2.out.set 2 rfl hb hg hs hn); clear hb hg hs hn))
        refine bodyPost_ret (HRET.out _ _ _ (S3.out.at 2 rfl) rfl _ rfl) rfl ?_
        rw [HR.out]
        exact ⟨_, _, rfl, S3.out.gX 0 rfl, S3.out.bel⟩
      · replace hfr := Nat.lt_of_not_le hfr
        obtain ⟨f, hf⟩ : ∃ f, f = firstR (rowT t a) := ⟨_, rfl⟩
        rw [← hf] at hfr
        have HF := Lib.hid (first_T hf hfr)
        have HR : Hid (openT t (a : Int) x = (⟨putD1 t.ds (freeD t.ds) { x with refs := 1 }, putF t.fs a f (freeD t.ds : Nat)⟩, (f : Int), 0)) := Lib.hid (by rw [HR0.out, if_neg (by omega), ← hf])
        have hf2 : f < (t.fs[a]).length := by rw [row_at ha] at hfr; exact hfr
        have f0 : (0 : Int) ≤ (f : Int) := by omega
        have f1 : (f : Int) < ((t.fs[a]).length : Int) := by omega
        have f2 : decide ((f : Int) < 0) = false := decide_eq_false (by omega)
        have hl1 : t.ds.length ≤ 1000 := HZ.out.1
        clear hf hfr
        refine (rfirst_c t _ _ _ _ _ (S1.out.g 0 rfl) a ha HZ.out).mono ?_
        rintro e W2 ⟨rfl, hb⟩
        clear h_d
        have S2 := Lib.hid (S1.out.call hb)
        rw [HF.out]
        clear hb
        go_upto_region 6 with (fail)
        have h_d := (S2.out.at 0 rfl)
        go_wp2_with (first | (refine wpList_load_row rfl 32 _ rfl _ rfl 32 _ (0, 0) _ h_d Try.underlying32 rfl (by kernel_rfl) ?_))
        have HBS := Lib.hid (S2.out.bel.size)
        refine (rcopied_c t _ _ _ _ _ (S2.out.g 0 rfl) HZ.out).mono ?_
        rintro e W3 ⟨ad2, cap2, af2, capf2, rows, rfl, hO, hb⟩
        clear h_d
        have S3 := Lib.hid (S2.out.call hb)
        have HO := Lib.hid hO
        have HBZ := Lib.hid hb.size
        clear hO
        clear hb
        have HXB := Lib.hid (show ∀ g, X g → g < W2.heap.size from fun g hg => Nat.lt_of_lt_of_le (HOLD.out g hg) HBS.out)
        have HL := Lib.hid (show ∀ g ∈ [w.heap.size, w.heap.size + 1, w.heap.size + 2], g < W2.heap.size from S2.out.ids)
        go_upto_region 7 with (fail)
        refine code_fresh1 ?_
        intro W4 hb hA0 hs
        have S4 := Lib.hid (S3.out.new1 hb hA0)
        replace HO := Lib.hid (HO.out.below hb)
        clear hb hA0 hs
        obtain ⟨x0, x1, x2, x3, x4, x5⟩ := cells6 (S4.out.at 1 rfl)
        have fx := fun j => Lib.frozen_of_heap (S4.out.at 1 rfl) j
        go_upto_region 8 with (fail)
        have hold := (S4.out.at 1 rfl)
        refine code_set1 hold ?_
        intro W5 hb hg hs hn
        clear x0 x1 x2 x3 x4 x5 fx
        have hn2 : W5.heap[w.heap.size + 1]? = some (.cells #[.int .i64 x.ino, .int .i64 x.pos, .bool x.rd, .bool x.wr, .int .i64 1, .int .i64 x.lock] 39 (0, 0)) := hn
        have S5 := Lib.hid (S4.out.set 1 rfl hb hg hs hn2)
        replace HO := Lib.hid (HO.out.before (HL.out _ (by simp)) hg)
        clear hb hg hs hn hn2 hold
        skip
        obtain ⟨o0, o1⟩ := cells2 (S5.out.at 3 rfl)
        go_wp2_with fail
        go_loop [11] (fun i => ∃ j : Nat, i = .int .i64 j ∧ j ≤ t.ds.length ∧ j ≤ freeD t.ds) (fun i => t.ds.length - (RowKit.intOf i).toNat)
        case atStart => exact ⟨0, rfl, Nat.zero_le _, Nat.zero_le _⟩
        case round =>
          obtain ⟨j, rfl, hj, hjf⟩ := hrel
          by_cases hlt : j < t.ds.length
          · have iL : decide (j < t.ds.length) = true := decide_eq_true hlt
            have iL2 : decide ((j : Int) < (t.ds.length : Int)) = true := decide_eq_true (by omega)
            have j0 : (0 : Int) ≤ (j : Int) := by omega
            have j1 : (j : Int) < (t.ds.length : Int) := by omega
            have w1 : IntKind.i64.wrap ((j : Int) + 1) = (j : Int) + 1 := Go.IntWalk.i64_in _ (by omega)
            obtain ⟨g, cp9, e9, hf9, ht9, -, -, -, -, q4, -⟩ := HO.out.descO j hlt
            injection e9 with e9a _ e9b
            subst e9a
            subst e9b
            obtain ⟨y, hy⟩ : ∃ y, y = t.ds[j] := ⟨_, rfl⟩
            rw [← hy] at q4
            by_cases h5 : 0 < y.refs
            · have i5 : decide (0 < y.refs) = true := decide_eq_true h5
              have HN := Lib.hid (free_next hlt hjf (by rw [← hy]; exact h5))
              clear hy hjf h5
              go_wp2_with fail
              go_round
              case rel => exact ⟨j + 1, by go_num, hlt, HN.out⟩
              case measure => simp [RowKit.intOf]; omega
            · have i5 : decide (0 < y.refs) = false := decide_eq_false h5
              have HJ := Lib.hid (free_here hlt hjf (by rw [← hy]; omega))
              have ne1 : ((j : Int) == (t.ds.length : Int)) = false := by simp; omega
              have ne2 : decide (j = t.ds.length) = false := decide_eq_false (by omega)
              have ne3 : decide ((j : Int) = (t.ds.length : Int)) = false := decide_eq_false (by omega)
              have ne4 : (j == t.ds.length) = false := by simp; omega
              clear hy hjf h5
              have HR1 : Hid (openT t (a : Int) x = (⟨t.ds.set j { x with refs := 1 }, putF t.fs a f (j : Nat)⟩, (f : Int), 0)) := Lib.hid (by rw [HR.out, HJ.out]; unfold putD1; rw [if_neg (by omega)])
              obtain ⟨o0, o1⟩ := cells2 (S5.out.at 3 rfl)
              go_upto_region 13 with (fail)
              have h_x := (S5.out.at 1 rfl)
              go_upto_region 14 with (first | (refine wpList_load_row rfl 39 _ rfl _ rfl 39 _ (0, 0) _ h_x Try.underlying39 rfl (by kernel_rfl) ?_) | (refine wpList_store_seg rfl 39 _ _ rfl g (j * 6) rfl rfl ht9 (by kernel_rfl) rfl ?_))
              clear o0 o1 h_x hf9 ht9
              have hgw : W5.grownBy (W5.setCells g (j * 6) [.int .i64 x.ino, .int .i64 x.pos, .bool x.rd, .bool x.wr, .int .i64 1, .int .i64 x.lock]) (some g) := grown_set W5 g _ _
              have HOn : Hid (OwnT 39 65 3 W2.heap.size ⟨t.ds.set j { x with refs := 1 }, t.fs⟩ (.slice (some ⟨g, 0, none⟩) t.ds.length cap2) (.slice af2 t.fs.length capf2) rows (W5.setCells g (j * 6) [.int .i64 x.ino, .int .i64 x.pos, .bool x.rd, .bool x.wr, .int .i64 1, .int .i64 x.lock])) := Lib.hid (HO.out.writeD (by first | rfl | (rw [List.length_append]; rfl)) hlt { x with refs := 1 } (by decide) (by decide))
              have S6 := Lib.hid (S5.out.grown (fun P hP => by rw [List.mem_singleton] at hP; subst hP; exact H0.out) hgw (fun g e => by rw [← Option.some.inj e]; exact ⟨Nat.le_trans HBS.out (HO.out.ds.lt _ rfl).1, S5.out.apart2 HO.out.ds rfl HL.out (S5.out.at 3 rfl) (by decide) _ rfl⟩))
              clear HO
              have HO := HOn
              clear HOn hgw
              generalize (W5.setCells g (j * 6) [.int .i64 x.ino, .int .i64 x.pos, .bool x.rd, .bool x.wr, .int .i64 1, .int .i64 x.lock]) = W7 at *
              obtain ⟨gf, capf3, gr, cr, e8, hrw, cR8, fR8, cI8⟩ := HO.out.rowO a ha f hf2
              injection e8 with e8a _ e8b
              subst e8a
              subst e8b
              have hro : W7.ownsRow W2.heap.size 3 1 (.slice (some ⟨gr, 0, none⟩) (t.fs[a]).length cr) (t.fs[a]).length (intC (t.fs[a])) := HO.out.row _ (List.mem_of_getElem? hrw)
              obtain ⟨o0, o1⟩ := cells2 (S6.out.at 3 rfl)
              go_upto_region 15 with (fail)
              clear cR8 fR8 cI8 o0 o1
              have hgw : W7.grownBy (W7.setCell ⟨gr, f, none⟩ (.int .i64 (j : Int))) (some gr) := grown_set W7 gr _ [(.int .i64 (j : Int))]
              have HOn : Hid (OwnT 39 65 3 W2.heap.size ⟨t.ds.set j { x with refs := 1 }, putF t.fs a f (j : Int)⟩ (.slice (some ⟨g, 0, none⟩) t.ds.length cap2) (.slice (some ⟨gf, 0, none⟩) t.fs.length capf2) (rows.set a ((t.fs[a]).set f (j : Int), .slice (some ⟨gr, 0, none⟩) (t.fs[a]).length cr)) (W7.setCell ⟨gr, f, none⟩ (.int .i64 (j : Int)))) := Lib.hid (HO.out.writeF ha hf2 hrw (j : Int) (by decide) (by decide))
              have S8 := Lib.hid (S6.out.grown (fun P hP => by rw [List.mem_singleton] at hP; subst hP; exact H0.out) hgw (fun g e => by rw [← Option.some.inj e]; exact ⟨Nat.le_trans HBS.out (hro.lt _ rfl).1, S6.out.apart2 hro rfl HL.out (S6.out.at 3 rfl) (by decide) _ rfl⟩))
              clear HO
              have HO := HOn
              clear HOn hgw
              generalize (W7.setCell ⟨gr, f, none⟩ (.int .i64 (j : Int))) = W9 at *
              have h_r := (S8.out.at 2 rfl)
              have h_o := (S8.out.at 3 rfl)
              go_wp2_with (first | (refine wpList_load_row rfl 32 _ rfl _ rfl 32 _ (0, 0) _ h_o Try.underlying32 rfl (by kernel_rfl) ?_) | (refine wpList_store_row rfl 32 _ _ rfl _ rfl rfl h_r rfl (by kernel_rfl) rfl ?_; intro W10 hb hg hs hn; have S10 := Lib.hid (S8.out.set 2 rfl hb hg hs hn); replace HO := Lib.hid (HO.out.before (HL.out _ (by simp)) hg); clear hb hg hs hn))
              refine bodyPost_ret (HRET.out _ _ _ (S10.out.at 2 rfl) rfl _ rfl) rfl ?_
              rw [HR1.out]
              exact ⟨_, _, rfl, HO.out.tab HXB.out, S10.out.bel⟩
          · have iL : decide (j < t.ds.length) = false := decide_eq_false hlt
            have iL2 : decide ((j : Int) < (t.ds.length : Int)) = false := decide_eq_false (by omega)
            have hje : j = t.ds.length := by omega
            have ne1 : ((j : Int) == (t.ds.length : Int)) = true := by simp; omega
            have ne2 : decide (j = t.ds.length) = true := decide_eq_true hje
            have ne3 : decide ((j : Int) = (t.ds.length : Int)) = true := decide_eq_true (by omega)
            have ne4 : (j == t.ds.length) = true := by simp; omega
            have HJ : Hid (freeD t.ds = t.ds.length) := Lib.hid (by have := free_le t.ds; omega)
            have HR1 : Hid (openT t (a : Int) x = (⟨t.ds ++ [{ x with refs := 1 }], putF t.fs a f (j : Nat)⟩, (f : Int), 0)) := Lib.hid (by rw [HR.out, HJ.out, ← hje]; unfold putD1; rw [if_pos hje])
            have HJE := Lib.hid hje
            have HJF := Lib.hid hjf
            clear hje hlt hj hjf
            go_upto_region 12 with (fail)
            clear ne1 ne2 ne3 ne4 iL iL2
            clear o0 o1
            obtain ⟨o0, o1⟩ := cells2 (S5.out.at 3 rfl)
            have fo := fun j => Lib.frozen_of_heap (S5.out.at 3 rfl) j
            have h_x := (S5.out.at 1 rfl)
            go_upto_region 13 with (first
              | (refine wpList_load_row rfl 39 _ rfl _ rfl 39 _ (0, 0) _ h_x Try.underlying39 rfl (by kernel_rfl) ?_)
              | (refine wpList_fresh1 ?_; intro W21 hb hA hs; have S21 := Lib.hid (S5.out.call hb); replace HO := Lib.hid (HO.out.below hb); have hrd : Rd W21.heap.size 6 (.slice (some ⟨W5.heap.size, 0, none⟩) 1 1) 1 (dcells { x with refs := 1 }) W21 := rd_block (xs := dcells { x with refs := 1 }) hA rfl (by decide) (Array.getElem?_eq_some_iff.1 hA).1; have hbw : W2.heap.size ≤ W21.heap.size := Nat.le_trans HBZ.out (Nat.le_of_lt (S21.out.own 3 rfl).2); clear hb hA hs o0 o1 fo; obtain ⟨o0, o1⟩ := cells2 (S21.out.at 3 rfl); have fo := fun j => Lib.frozen_of_heap (S21.out.at 3 rfl) j)
              | (at_builtin; go_loud (refine wpList_append_rd rfl (.tmp 53) (.tmp 55) 30 rfl W2.heap.size 39 iD _ 6 40 Try.underlying30 hD hDz hDs hDb rfl (by decide) (.slice ad2 t.ds.length cap2) t.ds.length (cellsD t.ds) rfl HO.out.ds _ _ 1 (dcells { x with refs := 1 }) rfl hrd (dcells_one _) (by unfold maxLen; omega) (by omega) hbw ?_); intro v8 W22 ho8 hgr8; obtain ⟨ad8, cp8, rfl⟩ := own_form ho8; have S22 := Lib.hid (S21.out.grown (fun P hP => by rw [List.mem_singleton] at hP; subst hP; exact H0.out) hgr8 (fun g e => ⟨Nat.le_trans HBS.out (HO.out.ds.lt g e).1, S21.out.apart2 HO.out.ds rfl HL.out (S21.out.at 3 rfl) (by decide) g e⟩)); replace HO := Lib.hid (HO.out.addD (ds' := t.ds ++ [{ x with refs := 1 }]) (vd' := .slice ad8 (t.ds.length + 1) cp8) (by rw [List.length_append, cellsD_app]; have e : cellsD [{ x with refs := 1 }] = dcells { x with refs := 1 } := (by simp [cellsD]); rw [e]; exact ho8) hgr8 (by decide) (by decide)); clear hgr8 ho8 hrd hbw o0 o1 fo; obtain ⟨o0, o1⟩ := cells2 (S22.out.at 3 rfl); have fo := fun j => Lib.frozen_of_heap (S22.out.at 3 rfl) j))
            have hold := S22.out.at 3 rfl
            refine code_set1 hold ?_
            intro W23 hb hg hs hn
            clear o0 o1 fo h_x
            have hn2 : W23.heap[W3.heap.size]? = some (.cells #[.slice ad8 (t.ds.length + 1) cp8, .slice af2 t.fs.length capf2] 32 (0, 0)) := hn
            have S23 := Lib.hid (S22.out.set 3 rfl hb hg hs hn2)
            replace HO := Lib.hid (HO.out.other hold (by decide) (by decide) (by decide) hg)
            clear hb hg hs hn hn2 hold
            have hjl : j < (t.ds ++ [{ x with refs := 1 }]).length := by rw [List.length_append, List.length_singleton]; have := HJE.out; omega
            have j0 : (0 : Int) ≤ (j : Int) := by omega
            have j1 : (j : Int) < (t.ds.length : Int) + 1 := by have := HJE.out; omega
            have j2 : (j : Int) < ((t.ds.length + 1 : Nat) : Int) := by have := HJE.out; omega
            obtain ⟨g, cp9, e9, hf9, ht9, -, -, -, -, -, -⟩ := HO.out.descO j hjl
            injection e9 with e9a e9l e9b
            clear e9l
            subst e9a
            subst e9b
            have hsl : (t.ds ++ [{ x with refs := 1 }]).set j { x with refs := 1 } = t.ds ++ [{ x with refs := 1 }]   := by rw [HJE.out, List.set_append_right _ _ (Nat.le_refl _), Nat.sub_self]; rfl
            have HSL := Lib.hid hsl
            clear hsl
            obtain ⟨o0, o1⟩ := cells2 (S23.out.at 3 rfl)
            have h_x := (S23.out.at 1 rfl)
            go_upto_region 14 with (first | (refine wpList_load_row rfl 39 _ rfl _ rfl 39 _ (0, 0) _ h_x Try.underlying39 rfl (by kernel_rfl) ?_) | (refine wpList_store_seg rfl 39 _ _ rfl g (j * 6) rfl rfl ht9 (by kernel_rfl) rfl ?_))
            clear o0 o1 h_x hf9 ht9
            have hgw : W23.grownBy (W23.setCells g (j * 6) [.int .i64 x.ino, .int .i64 x.pos, .bool x.rd, .bool x.wr, .int .i64 1, .int .i64 x.lock]) (some g) := grown_set W23 g _ _
            have HOn : Hid (OwnT 39 65 3 W2.heap.size ⟨(t.ds ++ [{ x with refs := 1 }]).set j { x with refs := 1 }, t.fs⟩ (.slice (some ⟨g, 0, none⟩) (t.ds.length + 1) cp8) (.slice af2 t.fs.length capf2) rows (W23.setCells g (j * 6) [.int .i64 x.ino, .int .i64 x.pos, .bool x.rd, .bool x.wr, .int .i64 1, .int .i64 x.lock])) := Lib.hid (HO.out.writeD (by first | rfl | (rw [List.length_append]; rfl)) hjl { x with refs := 1 } (by decide) (by decide))
            have S24 := Lib.hid (S23.out.grown (fun P hP => by rw [List.mem_singleton] at hP; subst hP; exact H0.out) hgw (fun g e => by rw [← Option.some.inj e]; exact ⟨Nat.le_trans HBS.out (HO.out.ds.lt _ rfl).1, S23.out.apart2 HO.out.ds rfl HL.out (S23.out.at 3 rfl) (by decide) _ rfl⟩))
            clear HO
            have HO := HOn
            clear HOn hgw
            generalize (W23.setCells g (j * 6) [.int .i64 x.ino, .int .i64 x.pos, .bool x.rd, .bool x.wr, .int .i64 1, .int .i64 x.lock]) = W25 at *
            rw [HSL.out] at HO
            clear j1 j2 hjl
            obtain ⟨gf, capf3, gr, cr, e8, hrw, cR8, fR8, cI8⟩ := HO.out.rowO a ha f hf2
            injection e8 with e8a _ e8b
            subst e8a
            subst e8b
            have hro : W25.ownsRow W2.heap.size 3 1 (.slice (some ⟨gr, 0, none⟩) (t.fs[a]).length cr) (t.fs[a]).length (intC (t.fs[a])) := HO.out.row _ (List.mem_of_getElem? hrw)
            obtain ⟨o0, o1⟩ := cells2 (S24.out.at 3 rfl)
            go_upto_region 15 with (fail)
            clear cR8 fR8 cI8 o0 o1
            have hgw : W25.grownBy (W25.setCell ⟨gr, f, none⟩ (.int .i64 (j : Int))) (some gr) := grown_set W25 gr _ [(.int .i64 (j : Int))]
            have HOn : Hid (OwnT 39 65 3 W2.heap.size ⟨t.ds ++ [{ x with refs := 1 }], putF t.fs a f (j : Int)⟩ (.slice (some ⟨g, 0, none⟩) (t.ds.length + 1) cp8) (.slice (some ⟨gf, 0, none⟩) t.fs.length capf2) (rows.set a ((t.fs[a]).set f (j : Int), .slice (some ⟨gr, 0, none⟩) (t.fs[a]).length cr)) (W25.setCell ⟨gr, f, none⟩ (.int .i64 (j : Int)))) := Lib.hid (HO.out.writeF ha hf2 hrw (j : Int) (by decide) (by decide))
            have S26 := Lib.hid (S24.out.grown (fun P hP => by rw [List.mem_singleton] at hP; subst hP; exact H0.out) hgw (fun g e => by rw [← Option.some.inj e]; exact ⟨Nat.le_trans HBS.out (hro.lt _ rfl).1, S24.out.apart2 hro rfl HL.out (S24.out.at 3 rfl) (by decide) _ rfl⟩))
            clear HO
            have HO := HOn
            clear HOn hgw
            generalize (W25.setCell ⟨gr, f, none⟩ (.int .i64 (j : Int))) = W27 at *
            have h_r := (S26.out.at 2 rfl)
            have h_o := (S26.out.at 3 rfl)
            go_wp2_with (first | (refine wpList_load_row rfl 32 _ rfl _ rfl 32 _ (0, 0) _ h_o Try.underlying32 rfl (by kernel_rfl) ?_) | (refine wpList_store_row rfl 32 _ _ rfl _ rfl rfl h_r rfl (by kernel_rfl) rfl ?_; intro W28 hb hg hs hn; have S28 := Lib.hid (S26.out.set 2 rfl hb hg hs hn); replace HO := Lib.hid (HO.out.before (HL.out _ (by simp)) hg); clear hb hg hs hn))
            refine bodyPost_ret (HRET.out _ _ _ (S28.out.at 2 rfl) rfl _ rfl) rfl ?_
            rw [HR1.out]
            exact ⟨_, _, rfl, HO.out.tab HXB.out, S28.out.bel⟩
end Go.Proofs.Ytbcmhjgjcknfmaa
