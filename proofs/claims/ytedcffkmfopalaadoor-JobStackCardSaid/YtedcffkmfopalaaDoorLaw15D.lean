/-
  The walk of JobStack.
-/
import Derived.Test.YtedcffkmfopalaaDoorJobL
import Derived.Test.YtedcffkmfopalaaDoorJobF
import Derived.Test.YtedcffkmfopalaaDoorShown15
import Derived.Deep.DeepCutAuto
namespace Go.Proofs.YtedcffkmfopalaaDoor
open Go.RowKit Go.Shelf
attribute [local go_sem ↓] Go.wp_at_zero Go.wp_at_succ

theorem push_len (a : JobL) (f : FrameL) : (pushJ a f).stack.length = a.stack.length + 1 := by simp [pushJ]
theorem push_last (a : JobL) (f : FrameL) : (pushJ a f).stack.getLast? = some f := by simp [pushJ]
theorem pop_push (a : JobL) (f : FrameL) : popJ (pushJ a f) = a := by cases a; simp [popJ, pushJ]
/-- Behind the third push's top. -/
structure StackQ (b : Nat) (f : FrameL) (v : Value) (W W' : World) : Prop where
  blk : W'.heap[b]? = some (.cells #[.int .i64 f.fd, .string (bs f.name), v] 46 (0, 0))
  new : W.heap.size ≤ b
  bel : Below W.heap.size W W'
set_option maxRecDepth 100000 in
set_option maxHeartbeats 4000000 in
theorem jobStack_w (a : JobL) (f g : FrameL) (vn vs vd vf vg : Value) (w : World) (ha : GivesJ a vn vs vd w) (hf : Rd w.heap.size 1 vf f.names.length (strs f.names) w) (hg : Rd w.heap.size 1 vg g.names.length (strs g.names) w) :
    Calls Tryd.prog 5 #[jval a vn vs vd, fval f vf, fval g vg] w fun e w' => e = .returned (.bool true) ∧ Below w.heap.size w w' := by
  obtain ⟨an, acn, rfl, _, _⟩ := Rd.form ha.nm
  obtain ⟨ax, acs, rfl, _, _⟩ := ha.st.form
  obtain ⟨ad, acd, rfl, _, _⟩ := Rd.form ha.dr
  obtain ⟨f1, f2, rfl, _, _⟩ := Rd.form hf
  obtain ⟨g1, g2, rfl, _, _⟩ := Rd.form hg
  have HA := Lib.hid ha
  have HF := Lib.hid hf
  have HG := Lib.hid hg
  clear ha hf hg
  go_enter Tryd.func5, Tryd.ntmps5
  go_upto_region 1 with (fail)
  refine code_fresh3 ?_
  intro W1 hb hA hA2 hA3 hs
  have BA := Lib.hid (hA)
  have BF := Lib.hid (hA2)
  have BG := Lib.hid (hA3)
  replace HA := Lib.hid (HA.out.keep hb)
  replace HF := Lib.hid (rd_keep HF.out hb)
  replace HG := Lib.hid (rd_keep HG.out hb)
  have HW := Lib.hid hb
  clear hb hA hA2 hA3 hs
  have hz0 := BA.out
  go_wp2_with (first | (refine wpList_load_row rfl 27 _ rfl _ rfl 27 _ (0, 0) _ hz0 Tryd.underlying27 rfl (by kernel_rfl) ?_) | (refine wpList_load_rowG rfl 27 _ rfl _ rfl 27 _ (0, 0) _ hz0 Tryd.underlying27 rfl (by kernel_rfl) ?_))
  clear hz0
  refine (plain_c a _ _ _ W1 HA.out).mono ?_
  rintro e V1 ⟨rfl, hb⟩
  replace BA := Lib.hid ((hb.block _ (lt_some BA.out)).trans BA.out)
  replace BF := Lib.hid ((hb.block _ (lt_some BF.out)).trans BF.out)
  replace BG := Lib.hid ((hb.block _ (lt_some BG.out)).trans BG.out)
  replace HA := Lib.hid (HA.out.keep hb)
  replace HF := Lib.hid (rd_keep HF.out hb)
  replace HG := Lib.hid (rd_keep HG.out hb)
  replace HW := Lib.hid (HW.out.trans (hb.mono HW.out.size))
  clear hb
  cases hq : plainJ a with
  | false =>
    clear hq
    go_wp2_with fail
    refine (shown_c V1).mono ?_
    rintro e Z ⟨rfl, hb⟩
    go_wp2_with fail
    go_ret
    exact ⟨rfl, ret_tr HW.out hb⟩
  | true =>
    have SA := Lib.hid (small_J hq)
    clear hq
    by_cases hq : f.names.length ≤ 60
    case neg =>
      have p1 : decide ((60 : Int) < (f.names.length : Int)) = true := decide_eq_true (by omega)
      have p2 : decide (60 < f.names.length) = true := decide_eq_true (by omega)
      clear hq
      obtain ⟨-, -, c2⟩ := cells3 BF.out
      obtain ⟨-, -, d2⟩ := cells3 BG.out
      go_wp2_with fail
      refine (shown_c V1).mono ?_
      rintro e Z ⟨rfl, hb⟩
      go_wp2_with fail
      go_ret
      exact ⟨rfl, ret_tr HW.out hb⟩
    have p3 : decide ((60 : Int) < (f.names.length : Int)) = false := decide_eq_false (by omega)
    have p4 : decide (60 < f.names.length) = false := decide_eq_false (by omega)
    have Nf := Lib.hid hq
    clear hq
    by_cases hq : g.names.length ≤ 60
    case neg =>
      have p1 : decide ((60 : Int) < (g.names.length : Int)) = true := decide_eq_true (by omega)
      have p2 : decide (60 < g.names.length) = true := decide_eq_true (by omega)
      clear hq
      obtain ⟨-, -, c2⟩ := cells3 BF.out
      obtain ⟨-, -, d2⟩ := cells3 BG.out
      go_wp2_with fail
      refine (shown_c V1).mono ?_
      rintro e Z ⟨rfl, hb⟩
      go_wp2_with fail
      go_ret
      exact ⟨rfl, ret_tr HW.out hb⟩
    have p5 : decide ((60 : Int) < (g.names.length : Int)) = false := decide_eq_false (by omega)
    have p6 : decide (60 < g.names.length) = false := decide_eq_false (by omega)
    have Ng := Lib.hid hq
    clear hq
    obtain ⟨-, -, c2⟩ := cells3 BF.out
    obtain ⟨-, -, d2⟩ := cells3 BG.out
    go_wp2_with fail
    refine (shown_c V1).mono ?_
    rintro e V2 ⟨rfl, hb⟩
    replace BA := Lib.hid ((hb.block _ (lt_some BA.out)).trans BA.out)
    replace BF := Lib.hid ((hb.block _ (lt_some BF.out)).trans BF.out)
    replace BG := Lib.hid ((hb.block _ (lt_some BG.out)).trans BG.out)
    replace HA := Lib.hid (HA.out.keep hb)
    replace HF := Lib.hid (rd_keep HF.out hb)
    replace HG := Lib.hid (rd_keep HG.out hb)
    replace HW := Lib.hid (HW.out.trans (hb.mono HW.out.size))
    clear hb
    clear c2 d2 p3 p4 p5 p6
    have hz0 := BA.out
    have hz1 := BF.out
    go_wp2_with (first | (refine wpList_load_row rfl 27 _ rfl _ rfl 27 _ (0, 0) _ hz0 Tryd.underlying27 rfl (by kernel_rfl) ?_) | (refine wpList_load_rowG rfl 27 _ rfl _ rfl 27 _ (0, 0) _ hz0 Tryd.underlying27 rfl (by kernel_rfl) ?_) | (refine wpList_load_row rfl 46 _ rfl _ rfl 46 _ (0, 0) _ hz1 Tryd.underlying46 rfl (by kernel_rfl) ?_) | (refine wpList_load_rowG rfl 46 _ rfl _ rfl 46 _ (0, 0) _ hz1 Tryd.underlying46 rfl (by kernel_rfl) ?_))
    clear hz0 hz1
    refine (pPush_c a (by have := SA.out.st; omega) f (by have := Nf.out; omega) _ _ _ _ V2 HA.out HF.out).mono ?_
    rintro e V3 ⟨v7, rfl, hx, hb⟩
    replace BA := Lib.hid ((hb.block _ (lt_some BA.out)).trans BA.out)
    replace BF := Lib.hid ((hb.block _ (lt_some BF.out)).trans BF.out)
    replace BG := Lib.hid ((hb.block _ (lt_some BG.out)).trans BG.out)
    replace HA := Lib.hid (HA.out.keep hb)
    replace HF := Lib.hid (rd_keep HF.out hb)
    replace HG := Lib.hid (rd_keep HG.out hb)
    replace HW := Lib.hid (HW.out.trans (hb.mono HW.out.size))
    clear hb
    obtain ⟨s7, c7, rfl, _, _⟩ := hx.st.form
    have X7 := Lib.hid (hx)
    clear hx
    go_upto_region 4 with (first | (refine wpList_fresh1 ?_; intro V61 hb hA61 hs61) | (refine wpList_store_row rfl 27 _ _ rfl _ rfl rfl hA61 rfl (by kernel_rfl) rfl ?_; intro W61 hb61 hg61 hs61 hB61))
    (try simp only [List.getElem_toArray]); (try simp only [List.getElem_cons_succ]); (try simp only [List.getElem_cons_zero]); (try simp only [Act.put]); (try simp only [List.setIfInBounds_toArray]); (try simp only [List.set_cons_succ]); (try simp only [List.set_cons_zero])
    have hbv : Below V3.heap.size V3 W61 := hb.trans (hb61.mono (Nat.le_refl _))
    obtain ⟨bh, hbn⟩ : ∃ b, b = V3.heap.size := ⟨_, rfl⟩
    have Lh := Lib.hid hbn
    rw [← hbn] at hB61 ⊢
    clear hb hb61 hA61 hs61 hg61 hbn
    have hb := hbv
    clear hbv
    replace BA := Lib.hid ((hb.block _ (lt_some BA.out)).trans BA.out)
    replace BF := Lib.hid ((hb.block _ (lt_some BF.out)).trans BF.out)
    replace BG := Lib.hid ((hb.block _ (lt_some BG.out)).trans BG.out)
    replace HA := Lib.hid (HA.out.keep hb)
    replace HF := Lib.hid (rd_keep HF.out hb)
    replace HG := Lib.hid (rd_keep HG.out hb)
    replace HW := Lib.hid (HW.out.trans (hb.mono HW.out.size))
    replace X7 := Lib.hid (X7.out.keep hb)
    clear hb
    have Bh := Lib.hid ((show W61.heap[bh]? = some (.cells #[.int .i64 (pushJ a f).kind, .int .i64 (pushJ a f).p, .int .i64 (pushJ a f).phase, .int .i64 (pushJ a f).fd, .int .i64 (pushJ a f).n, .int .i64 (pushJ a f).mode, .int .i64 (pushJ a f).tries, .int .i64 (pushJ a f).pos, .int .i64 (pushJ a f).flags, .string (bs (pushJ a f).path), .string (bs (pushJ a f).path2), .string (bs (pushJ a f).text), .slice an a.names.length acn, .slice s7 (pushJ a f).stack.length c7, .slice ad a.draws.length acd, .bool (pushJ a f).done, .int .i64 (pushJ a f).exit, .string (bs (pushJ a f).out), .int .i64 (pushJ a f).e] 27 (0, 0)) from hB61))
    clear hB61
    have hz0 := BA.out
    have hz1 := BG.out
    go_wp2_with (first | (refine wpList_load_row rfl 27 _ rfl _ rfl 27 _ (0, 0) _ hz0 Tryd.underlying27 rfl (by kernel_rfl) ?_) | (refine wpList_load_rowG rfl 27 _ rfl _ rfl 27 _ (0, 0) _ hz0 Tryd.underlying27 rfl (by kernel_rfl) ?_) | (refine wpList_load_row rfl 46 _ rfl _ rfl 46 _ (0, 0) _ hz1 Tryd.underlying46 rfl (by kernel_rfl) ?_) | (refine wpList_load_rowG rfl 46 _ rfl _ rfl 46 _ (0, 0) _ hz1 Tryd.underlying46 rfl (by kernel_rfl) ?_))
    clear hz0 hz1
    refine (pPush_c a (by have := SA.out.st; omega) g (by have := Ng.out; omega) _ _ _ _ W61 HA.out HG.out).mono ?_
    rintro e V4 ⟨v8, rfl, hx, hb⟩
    replace BA := Lib.hid ((hb.block _ (lt_some BA.out)).trans BA.out)
    replace BF := Lib.hid ((hb.block _ (lt_some BF.out)).trans BF.out)
    replace BG := Lib.hid ((hb.block _ (lt_some BG.out)).trans BG.out)
    replace HA := Lib.hid (HA.out.keep hb)
    replace HF := Lib.hid (rd_keep HF.out hb)
    replace HG := Lib.hid (rd_keep HG.out hb)
    replace HW := Lib.hid (HW.out.trans (hb.mono HW.out.size))
    replace X7 := Lib.hid (X7.out.keep hb)
    replace Bh := Lib.hid ((hb.block _ (lt_some Bh.out)).trans Bh.out)
    clear hb
    obtain ⟨s8, c8, rfl, _, _⟩ := hx.st.form
    have X8 := Lib.hid (hx)
    clear hx
    go_upto_region 5 with (first | (refine wpList_fresh1 ?_; intro V62 hb hA62 hs62) | (refine wpList_store_row rfl 27 _ _ rfl _ rfl rfl hA62 rfl (by kernel_rfl) rfl ?_; intro W62 hb62 hg62 hs62 hB62))
    (try simp only [List.getElem_toArray]); (try simp only [List.getElem_cons_succ]); (try simp only [List.getElem_cons_zero]); (try simp only [Act.put]); (try simp only [List.setIfInBounds_toArray]); (try simp only [List.set_cons_succ]); (try simp only [List.set_cons_zero])
    have hbv : Below V4.heap.size V4 W62 := hb.trans (hb62.mono (Nat.le_refl _))
    obtain ⟨bi, hbn⟩ : ∃ b, b = V4.heap.size := ⟨_, rfl⟩
    have Li := Lib.hid hbn
    rw [← hbn] at hB62 ⊢
    clear hb hb62 hA62 hs62 hg62 hbn
    have hb := hbv
    clear hbv
    replace BA := Lib.hid ((hb.block _ (lt_some BA.out)).trans BA.out)
    replace BF := Lib.hid ((hb.block _ (lt_some BF.out)).trans BF.out)
    replace BG := Lib.hid ((hb.block _ (lt_some BG.out)).trans BG.out)
    replace HA := Lib.hid (HA.out.keep hb)
    replace HF := Lib.hid (rd_keep HF.out hb)
    replace HG := Lib.hid (rd_keep HG.out hb)
    replace HW := Lib.hid (HW.out.trans (hb.mono HW.out.size))
    replace X7 := Lib.hid (X7.out.keep hb)
    replace Bh := Lib.hid ((hb.block _ (lt_some Bh.out)).trans Bh.out)
    replace X8 := Lib.hid (X8.out.keep hb)
    clear hb
    have Bi := Lib.hid ((show W62.heap[bi]? = some (.cells #[.int .i64 (pushJ a g).kind, .int .i64 (pushJ a g).p, .int .i64 (pushJ a g).phase, .int .i64 (pushJ a g).fd, .int .i64 (pushJ a g).n, .int .i64 (pushJ a g).mode, .int .i64 (pushJ a g).tries, .int .i64 (pushJ a g).pos, .int .i64 (pushJ a g).flags, .string (bs (pushJ a g).path), .string (bs (pushJ a g).path2), .string (bs (pushJ a g).text), .slice an a.names.length acn, .slice s8 (pushJ a g).stack.length c8, .slice ad a.draws.length acd, .bool (pushJ a g).done, .int .i64 (pushJ a g).exit, .string (bs (pushJ a g).out), .int .i64 (pushJ a g).e] 27 (0, 0)) from hB62))
    clear hB62
    have hz0 := Bh.out
    go_wp2_with (first | (refine wpList_load_row rfl 27 _ rfl _ rfl 27 _ (0, 0) _ hz0 Tryd.underlying27 rfl (by kernel_rfl) ?_) | (refine wpList_load_rowG rfl 27 _ rfl _ rfl 27 _ (0, 0) _ hz0 Tryd.underlying27 rfl (by kernel_rfl) ?_))
    clear hz0
    refine (pTop_c (pushJ a f) (by rw [push_len]; have := SA.out.st; omega) f (push_last a f) (by have := Nf.out; omega) _ _ _ W62 X7.out).mono ?_
    rintro e V5 ⟨v63, rfl, hr63, hb⟩
    replace BA := Lib.hid ((hb.block _ (lt_some BA.out)).trans BA.out)
    replace BF := Lib.hid ((hb.block _ (lt_some BF.out)).trans BF.out)
    replace BG := Lib.hid ((hb.block _ (lt_some BG.out)).trans BG.out)
    replace HA := Lib.hid (HA.out.keep hb)
    replace HF := Lib.hid (rd_keep HF.out hb)
    replace HG := Lib.hid (rd_keep HG.out hb)
    replace HW := Lib.hid (HW.out.trans (hb.mono HW.out.size))
    replace X7 := Lib.hid (X7.out.keep hb)
    replace Bh := Lib.hid ((hb.block _ (lt_some Bh.out)).trans Bh.out)
    replace X8 := Lib.hid (X8.out.keep hb)
    replace Bi := Lib.hid ((hb.block _ (lt_some Bi.out)).trans Bi.out)
    clear hb
    obtain ⟨o63, k63, rfl, _, _⟩ := Rd.form hr63
    clear hr63
    go_upto_region 6 with (first | (refine wpList_fresh1 ?_; intro V63 hb hA63 hs63) | (refine wpList_store_row rfl 46 _ _ rfl _ rfl rfl hA63 rfl (by kernel_rfl) rfl ?_; intro W63 hb63 hg63 hs63 hB63))
    (try simp only [List.getElem_toArray]); (try simp only [List.getElem_cons_succ]); (try simp only [List.getElem_cons_zero]); (try simp only [Act.put]); (try simp only [List.setIfInBounds_toArray]); (try simp only [List.set_cons_succ]); (try simp only [List.set_cons_zero])
    have hbv : Below V5.heap.size V5 W63 := hb.trans (hb63.mono (Nat.le_refl _))
    obtain ⟨bj, hbn⟩ : ∃ b, b = V5.heap.size := ⟨_, rfl⟩
    have Lj := Lib.hid hbn
    rw [← hbn] at hB63 ⊢
    clear hb hb63 hA63 hs63 hg63 hbn
    have hb := hbv
    clear hbv
    replace BA := Lib.hid ((hb.block _ (lt_some BA.out)).trans BA.out)
    replace BF := Lib.hid ((hb.block _ (lt_some BF.out)).trans BF.out)
    replace BG := Lib.hid ((hb.block _ (lt_some BG.out)).trans BG.out)
    replace HA := Lib.hid (HA.out.keep hb)
    replace HF := Lib.hid (rd_keep HF.out hb)
    replace HG := Lib.hid (rd_keep HG.out hb)
    replace HW := Lib.hid (HW.out.trans (hb.mono HW.out.size))
    replace X7 := Lib.hid (X7.out.keep hb)
    replace Bh := Lib.hid ((hb.block _ (lt_some Bh.out)).trans Bh.out)
    replace X8 := Lib.hid (X8.out.keep hb)
    replace Bi := Lib.hid ((hb.block _ (lt_some Bi.out)).trans Bi.out)
    clear hb
    have Bj := Lib.hid ((show W63.heap[bj]? = some (.cells #[.int .i64 f.fd, .string (bs f.name), .slice o63 f.names.length k63] 46 (0, 0)) from hB63))
    clear hB63
    have hz0 := Bi.out
    go_wp2_with (first | (refine wpList_load_row rfl 27 _ rfl _ rfl 27 _ (0, 0) _ hz0 Tryd.underlying27 rfl (by kernel_rfl) ?_) | (refine wpList_load_rowG rfl 27 _ rfl _ rfl 27 _ (0, 0) _ hz0 Tryd.underlying27 rfl (by kernel_rfl) ?_))
    clear hz0
    refine (pTop_c (pushJ a g) (by rw [push_len]; have := SA.out.st; omega) g (push_last a g) (by have := Ng.out; omega) _ _ _ W63 X8.out).mono ?_
    rintro e V6 ⟨v64, rfl, hr64, hb⟩
    replace BA := Lib.hid ((hb.block _ (lt_some BA.out)).trans BA.out)
    replace BF := Lib.hid ((hb.block _ (lt_some BF.out)).trans BF.out)
    replace BG := Lib.hid ((hb.block _ (lt_some BG.out)).trans BG.out)
    replace HA := Lib.hid (HA.out.keep hb)
    replace HF := Lib.hid (rd_keep HF.out hb)
    replace HG := Lib.hid (rd_keep HG.out hb)
    replace HW := Lib.hid (HW.out.trans (hb.mono HW.out.size))
    replace X7 := Lib.hid (X7.out.keep hb)
    replace Bh := Lib.hid ((hb.block _ (lt_some Bh.out)).trans Bh.out)
    replace X8 := Lib.hid (X8.out.keep hb)
    replace Bi := Lib.hid ((hb.block _ (lt_some Bi.out)).trans Bi.out)
    replace Bj := Lib.hid ((hb.block _ (lt_some Bj.out)).trans Bj.out)
    clear hb
    obtain ⟨o64, k64, rfl, _, _⟩ := Rd.form hr64
    clear hr64
    go_upto_region 7 with (first | (refine wpList_fresh1 ?_; intro V64 hb hA64 hs64) | (refine wpList_store_row rfl 46 _ _ rfl _ rfl rfl hA64 rfl (by kernel_rfl) rfl ?_; intro W64 hb64 hg64 hs64 hB64))
    (try simp only [List.getElem_toArray]); (try simp only [List.getElem_cons_succ]); (try simp only [List.getElem_cons_zero]); (try simp only [Act.put]); (try simp only [List.setIfInBounds_toArray]); (try simp only [List.set_cons_succ]); (try simp only [List.set_cons_zero])
    have hbv : Below V6.heap.size V6 W64 := hb.trans (hb64.mono (Nat.le_refl _))
    obtain ⟨bk, hbn⟩ : ∃ b, b = V6.heap.size := ⟨_, rfl⟩
    have Lk := Lib.hid hbn
    rw [← hbn] at hB64 ⊢
    clear hb hb64 hA64 hs64 hg64 hbn
    have hb := hbv
    clear hbv
    replace BA := Lib.hid ((hb.block _ (lt_some BA.out)).trans BA.out)
    replace BF := Lib.hid ((hb.block _ (lt_some BF.out)).trans BF.out)
    replace BG := Lib.hid ((hb.block _ (lt_some BG.out)).trans BG.out)
    replace HA := Lib.hid (HA.out.keep hb)
    replace HF := Lib.hid (rd_keep HF.out hb)
    replace HG := Lib.hid (rd_keep HG.out hb)
    replace HW := Lib.hid (HW.out.trans (hb.mono HW.out.size))
    replace X7 := Lib.hid (X7.out.keep hb)
    replace Bh := Lib.hid ((hb.block _ (lt_some Bh.out)).trans Bh.out)
    replace X8 := Lib.hid (X8.out.keep hb)
    replace Bi := Lib.hid ((hb.block _ (lt_some Bi.out)).trans Bi.out)
    replace Bj := Lib.hid ((hb.block _ (lt_some Bj.out)).trans Bj.out)
    clear hb
    have Bk := Lib.hid ((show W64.heap[bk]? = some (.cells #[.int .i64 g.fd, .string (bs g.name), .slice o64 g.names.length k64] 46 (0, 0)) from hB64))
    clear hB64
    go_cut [13, 14] (fun s13 s14 wx => ∃ b13 v13, s13 = .pointer (some ⟨b13, 0, none⟩) ∧ s14 = .bool true ∧ Hid (StackQ b13 g v13 W64 wx))
    case first =>
      have HV := Lib.hid (Below.refl W64.heap.size W64)
      have Bh0 := Bh
      have BG0 := BG
      refine wp_region_held_drew (S := fun V => V.heap[bh]? = some (.cells #[.int .i64 (pushJ a f).kind, .int .i64 (pushJ a f).p, .int .i64 (pushJ a f).phase, .int .i64 (pushJ a f).fd, .int .i64 (pushJ a f).n, .int .i64 (pushJ a f).mode, .int .i64 (pushJ a f).tries, .int .i64 (pushJ a f).pos, .int .i64 (pushJ a f).flags, .string (bs (pushJ a f).path), .string (bs (pushJ a f).path2), .string (bs (pushJ a f).text), .slice an a.names.length acn, .slice s7 (pushJ a f).stack.length c7, .slice ad a.draws.length acd, .bool (pushJ a f).done, .int .i64 (pushJ a f).exit, .string (bs (pushJ a f).out), .int .i64 (pushJ a f).e] 27 (0, 0)) ∧ V.heap[w.heap.size + 2]? = some (.cells #[.int .i64 g.fd, .string (bs g.name), .slice g1 g.names.length g2] 46 (0, 0)) ∧ True) (by kernel_rfl) ⟨Bh.out, BG.out, trivial⟩ (fun hHeld => ?_)
      have hb := (Below.refl W64.heap.size W64).drew
      generalize W64.drew = V107 at *
      replace BA := Lib.hid ((hb.block _ (lt_some BA.out)).trans BA.out)
      replace BF := Lib.hid ((hb.block _ (lt_some BF.out)).trans BF.out)
      replace BG := Lib.hid ((hb.block _ (lt_some BG.out)).trans BG.out)
      replace HA := Lib.hid (HA.out.keep hb)
      replace HF := Lib.hid (rd_keep HF.out hb)
      replace HG := Lib.hid (rd_keep HG.out hb)
      replace HW := Lib.hid (HW.out.trans (hb.mono HW.out.size))
      replace X7 := Lib.hid (X7.out.keep hb)
      replace Bh := Lib.hid ((hb.block _ (lt_some Bh.out)).trans Bh.out)
      replace X8 := Lib.hid (X8.out.keep hb)
      replace Bi := Lib.hid ((hb.block _ (lt_some Bi.out)).trans Bi.out)
      replace Bj := Lib.hid ((hb.block _ (lt_some Bj.out)).trans Bj.out)
      replace Bk := Lib.hid ((hb.block _ (lt_some Bk.out)).trans Bk.out)
      replace HV := Lib.hid (HV.out.trans (hb.mono HV.out.size))
      clear hb
      refine wpAnyH_take (i := 0) rfl (by kernel_rfl) (by kernel_rfl) (by kernel_rfl) (fun _ _ _ h => h) (yieldsIf_load_row (by rfl) 27 _ rfl _ rfl 27 _ (0, 0) _ (fun _ h => h.1) Tryd.underlying27 rfl (by kernel_rfl)) hHeld ?_
      (try simp only [List.getElem_toArray]); (try simp only [List.getElem_cons_succ]); (try simp only [List.getElem_cons_zero]); (try simp only [Act.put]); (try simp only [List.setIfInBounds_toArray]); (try simp only [List.set_cons_succ]); (try simp only [List.set_cons_zero])
      refine wpAnyH_take (i := 2) rfl (by kernel_rfl) (by kernel_rfl) (by kernel_rfl) (fun _ _ _ h => h) (yieldsIf_load_row (by rfl) 46 _ rfl _ rfl 46 _ (0, 0) _ (fun _ h => h.2.1) Tryd.underlying46 rfl (by kernel_rfl)) hHeld ?_
      (try simp only [List.getElem_toArray]); (try simp only [List.getElem_cons_succ]); (try simp only [List.getElem_cons_zero]); (try simp only [Act.put]); (try simp only [List.setIfInBounds_toArray]); (try simp only [List.set_cons_succ]); (try simp only [List.set_cons_zero])
      refine wpAnyH_ready (rs := [1, 8]) (by kernel_rfl) (by simp) ?_
      refine AllReadyH.cons rfl (fun K hK => ?_) (AllReadyH.cons rfl (fun K hK => ?_) AllReadyH.nil)
      · skip
        go_simp
        refine (pPop_c (pushJ a f) (by rw [push_len]; have := SA.out.st; omega) _ _ _ V107 X7.out).mono ?_
        rintro e V138 ⟨v9, rfl, hx, hb⟩
        replace BA := Lib.hid ((hb.block _ (lt_some BA.out)).trans BA.out)
        replace BF := Lib.hid ((hb.block _ (lt_some BF.out)).trans BF.out)
        replace BG := Lib.hid ((hb.block _ (lt_some BG.out)).trans BG.out)
        replace HA := Lib.hid (HA.out.keep hb)
        replace HF := Lib.hid (rd_keep HF.out hb)
        replace HG := Lib.hid (rd_keep HG.out hb)
        replace HW := Lib.hid (HW.out.trans (hb.mono HW.out.size))
        replace X7 := Lib.hid (X7.out.keep hb)
        replace Bh := Lib.hid ((hb.block _ (lt_some Bh.out)).trans Bh.out)
        replace X8 := Lib.hid (X8.out.keep hb)
        replace Bi := Lib.hid ((hb.block _ (lt_some Bi.out)).trans Bi.out)
        replace Bj := Lib.hid ((hb.block _ (lt_some Bj.out)).trans Bj.out)
        replace Bk := Lib.hid ((hb.block _ (lt_some Bk.out)).trans Bk.out)
        replace HV := Lib.hid (HV.out.trans (hb.mono HV.out.size))
        clear hb hHeld
        rw [pop_push] at hx ⊢
        have X9 := Lib.hid (hx)
        clear hx
        go_wp2_with fail
        refine hK.out _ _ ⟨Bh.out, BG.out, trivial⟩ (fun hHeld => ?_)
        clear hK K
        (try simp only [List.getElem_toArray]); (try simp only [List.getElem_cons_succ]); (try simp only [List.getElem_cons_zero]); (try simp only [Act.put]); (try simp only [List.setIfInBounds_toArray]); (try simp only [List.set_cons_succ]); (try simp only [List.set_cons_zero])
        refine wpAnyH_ready (rs := [3, 8]) (by kernel_rfl) (by simp) ?_
        refine AllReadyH.cons rfl (fun K hK => ?_) (AllReadyH.cons rfl (fun K hK => ?_) AllReadyH.nil)
        · skip
          go_simp
          refine (pPush_c a (by have := SA.out.st; omega) g (by have := Ng.out; omega) _ _ _ _ V138 X9.out HG.out).mono ?_
          rintro e V169 ⟨v10, rfl, hx, hb⟩
          replace BA := Lib.hid ((hb.block _ (lt_some BA.out)).trans BA.out)
          replace BF := Lib.hid ((hb.block _ (lt_some BF.out)).trans BF.out)
          replace BG := Lib.hid ((hb.block _ (lt_some BG.out)).trans BG.out)
          replace HA := Lib.hid (HA.out.keep hb)
          replace HF := Lib.hid (rd_keep HF.out hb)
          replace HG := Lib.hid (rd_keep HG.out hb)
          replace HW := Lib.hid (HW.out.trans (hb.mono HW.out.size))
          replace X7 := Lib.hid (X7.out.keep hb)
          replace Bh := Lib.hid ((hb.block _ (lt_some Bh.out)).trans Bh.out)
          replace X8 := Lib.hid (X8.out.keep hb)
          replace Bi := Lib.hid ((hb.block _ (lt_some Bi.out)).trans Bi.out)
          replace Bj := Lib.hid ((hb.block _ (lt_some Bj.out)).trans Bj.out)
          replace Bk := Lib.hid ((hb.block _ (lt_some Bk.out)).trans Bk.out)
          replace HV := Lib.hid (HV.out.trans (hb.mono HV.out.size))
          replace X9 := Lib.hid (X9.out.keep hb)
          clear hb hHeld
          have X10 := Lib.hid (hx)
          clear hx
          go_wp2_with fail
          refine hK.out _ _ ⟨Bh.out, BG.out, trivial⟩ (fun hHeld => ?_)
          clear hK K
          (try simp only [List.getElem_toArray]); (try simp only [List.getElem_cons_succ]); (try simp only [List.getElem_cons_zero]); (try simp only [Act.put]); (try simp only [List.setIfInBounds_toArray]); (try simp only [List.set_cons_succ]); (try simp only [List.set_cons_zero])
          refine wpAnyH_ready (rs := [4, 8]) (by kernel_rfl) (by simp) ?_
          refine AllReadyH.cons rfl (fun K hK => ?_) (AllReadyH.cons rfl (fun K hK => ?_) AllReadyH.nil)
          · skip
            go_simp
            refine (pTop_c (pushJ a g) (by rw [push_len]; have := SA.out.st; omega) g (push_last a g) (by have := Ng.out; omega) _ _ _ V169 X10.out).mono ?_
            rintro e V200 ⟨v11, rfl, hr11, hb⟩
            replace BA := Lib.hid ((hb.block _ (lt_some BA.out)).trans BA.out)
            replace BF := Lib.hid ((hb.block _ (lt_some BF.out)).trans BF.out)
            replace BG := Lib.hid ((hb.block _ (lt_some BG.out)).trans BG.out)
            replace HA := Lib.hid (HA.out.keep hb)
            replace HF := Lib.hid (rd_keep HF.out hb)
            replace HG := Lib.hid (rd_keep HG.out hb)
            replace HW := Lib.hid (HW.out.trans (hb.mono HW.out.size))
            replace X7 := Lib.hid (X7.out.keep hb)
            replace Bh := Lib.hid ((hb.block _ (lt_some Bh.out)).trans Bh.out)
            replace X8 := Lib.hid (X8.out.keep hb)
            replace Bi := Lib.hid ((hb.block _ (lt_some Bi.out)).trans Bi.out)
            replace Bj := Lib.hid ((hb.block _ (lt_some Bj.out)).trans Bj.out)
            replace Bk := Lib.hid ((hb.block _ (lt_some Bk.out)).trans Bk.out)
            replace HV := Lib.hid (HV.out.trans (hb.mono HV.out.size))
            replace X9 := Lib.hid (X9.out.keep hb)
            replace X10 := Lib.hid (X10.out.keep hb)
            clear hb hHeld
            obtain ⟨o11, k11, rfl, _, _⟩ := Rd.form hr11
            clear hr11
            go_wp2_with fail
            refine hK.out _ _ ⟨Bh.out, BG.out, trivial⟩ (fun hHeld => ?_)
            clear hK K
            (try simp only [List.getElem_toArray]); (try simp only [List.getElem_cons_succ]); (try simp only [List.getElem_cons_zero]); (try simp only [Act.put]); (try simp only [List.setIfInBounds_toArray]); (try simp only [List.set_cons_succ]); (try simp only [List.set_cons_zero])
            refine wpAnyH_take (i := 5) (v := ?v26) rfl (by kernel_rfl) (by kernel_rfl) (by kernel_rfl) (fun _ _ _ h => h) (Or.inl ⟨by rfl, ?hy26⟩) hHeld ?rest26
            case hy26 => (intro w hSw; (try dsimp only at hSw); (try go_split_ands); go_simp; first | done | with_reducible rfl)
            (try simp only [List.getElem_toArray]); (try simp only [List.getElem_cons_succ]); (try simp only [List.getElem_cons_zero]); (try simp only [Act.put]); (try simp only [List.setIfInBounds_toArray]); (try simp only [List.set_cons_succ]); (try simp only [List.set_cons_zero])
            refine wpAnyH_take (i := 6) (v := ?v27) rfl (by kernel_rfl) (by kernel_rfl) (by kernel_rfl) (fun _ _ _ h => h) (Or.inl ⟨by rfl, ?hy27⟩) hHeld ?rest27
            case hy27 => (intro w hSw; (try dsimp only at hSw); (try go_split_ands); go_simp; first | done | with_reducible rfl)
            (try simp only [List.getElem_toArray]); (try simp only [List.getElem_cons_succ]); (try simp only [List.getElem_cons_zero]); (try simp only [Act.put]); (try simp only [List.setIfInBounds_toArray]); (try simp only [List.set_cons_succ]); (try simp only [List.set_cons_zero])
            refine wpAnyH_take (i := 7) (v := ?v28) rfl (by kernel_rfl) (by kernel_rfl) (by kernel_rfl) (fun _ _ _ h => h) (Or.inl ⟨by rfl, ?hy28⟩) hHeld ?rest28
            case hy28 => (intro w hSw; (try dsimp only at hSw); (try go_split_ands); go_simp; first | done | with_reducible rfl)
            (try simp only [List.getElem_toArray]); (try simp only [List.getElem_cons_succ]); (try simp only [List.getElem_cons_zero]); (try simp only [Act.put]); (try simp only [List.setIfInBounds_toArray]); (try simp only [List.set_cons_succ]); (try simp only [List.set_cons_zero])
            refine wpAnyH_ready (rs := [8]) (by kernel_rfl) (by simp) ?_
            refine AllReadyH.cons rfl (fun K hK => ?_) AllReadyH.nil
            go_simp
            refine fresh1 (P := fun W => K _ W) ?_
            intro V201 hb hn hs
            obtain ⟨b13, hbn⟩ : ∃ b, b = V200.heap.size := ⟨_, rfl⟩
            have L13 := Lib.hid (show W64.heap.size ≤ b13 by rw [hbn]; exact HV.out.size)
            rw [← hbn] at hn ⊢
            clear hs
            replace BA := Lib.hid ((hb.block _ (lt_some BA.out)).trans BA.out)
            replace BF := Lib.hid ((hb.block _ (lt_some BF.out)).trans BF.out)
            replace BG := Lib.hid ((hb.block _ (lt_some BG.out)).trans BG.out)
            replace HA := Lib.hid (HA.out.keep hb)
            replace HF := Lib.hid (rd_keep HF.out hb)
            replace HG := Lib.hid (rd_keep HG.out hb)
            replace HW := Lib.hid (HW.out.trans (hb.mono HW.out.size))
            replace X7 := Lib.hid (X7.out.keep hb)
            replace Bh := Lib.hid ((hb.block _ (lt_some Bh.out)).trans Bh.out)
            replace X8 := Lib.hid (X8.out.keep hb)
            replace Bi := Lib.hid ((hb.block _ (lt_some Bi.out)).trans Bi.out)
            replace Bj := Lib.hid ((hb.block _ (lt_some Bj.out)).trans Bj.out)
            replace Bk := Lib.hid ((hb.block _ (lt_some Bk.out)).trans Bk.out)
            replace HV := Lib.hid (HV.out.trans (hb.mono HV.out.size))
            replace X9 := Lib.hid (X9.out.keep hb)
            replace X10 := Lib.hid (X10.out.keep hb)
            clear hb hHeld
            have B13 := Lib.hid (hn)
            clear hn hbn
            refine hK.out _ _ ⟨Bh.out, BG.out, trivial⟩ (fun hHeld => ?_)
            clear hK K
            (try simp only [List.getElem_toArray]); (try simp only [List.getElem_cons_succ]); (try simp only [List.getElem_cons_zero]); (try simp only [Act.put]); (try simp only [List.setIfInBounds_toArray]); (try simp only [List.set_cons_succ]); (try simp only [List.set_cons_zero])
            refine wpAnyH_ready (rs := [9]) (by kernel_rfl) (by simp) ?_
            refine AllReadyH.cons rfl (fun K hK => ?_) AllReadyH.nil
            rw [if_pos (by rfl)]
            refine wp_store_row 46 _ _ rfl _ rfl rfl B13.out rfl (by kernel_rfl) rfl ?_
            intro Z hb hg hs hn
            have l1 : bh < b13 := Nat.lt_of_lt_of_le (lt_some Bh0.out) L13.out
            have l2 : w.heap.size + 2 < b13 := Nat.lt_of_lt_of_le (lt_some BG0.out) L13.out
            refine hK.out _ _ ⟨(hg _ (by omega)).trans Bh.out, (hg _ (by omega)).trans BG.out, trivial⟩ (fun hHeld => ?_)
            clear hK K
            (try simp only [List.getElem_toArray]); (try simp only [List.getElem_cons_succ]); (try simp only [List.getElem_cons_zero]); (try simp only [Act.put]); (try simp only [List.setIfInBounds_toArray]); (try simp only [List.set_cons_succ]); (try simp only [List.set_cons_zero])
            refine wpAnyH_take (i := 10) (v := ?v29) rfl (by kernel_rfl) (by kernel_rfl) (by kernel_rfl) (fun _ _ _ h => h) (Or.inl ⟨by rfl, ?hy29⟩) hHeld ?rest29
            case hy29 => (intro w hSw; (try dsimp only at hSw); (try go_split_ands); go_simp; first | done | with_reducible rfl)
            (try simp only [List.getElem_toArray]); (try simp only [List.getElem_cons_succ]); (try simp only [List.getElem_cons_zero]); (try simp only [Act.put]); (try simp only [List.setIfInBounds_toArray]); (try simp only [List.set_cons_succ]); (try simp only [List.set_cons_zero])
            refine wpAnyH_done (by kernel_rfl) ?_ _
            go_wp2_with fail
            go_meet
            exact ⟨_, _, rfl, rfl, Lib.hid ⟨hn, L13.out, HV.out.trans (hb.mono L13.out)⟩⟩
          · skip
            go_simp
            refine fresh1 (P := fun W => K _ W) ?_
            intro V200 hb hn hs
            obtain ⟨b13, hbn⟩ : ∃ b, b = V169.heap.size := ⟨_, rfl⟩
            have L13 := Lib.hid (show W64.heap.size ≤ b13 by rw [hbn]; exact HV.out.size)
            rw [← hbn] at hn ⊢
            clear hs
            replace BA := Lib.hid ((hb.block _ (lt_some BA.out)).trans BA.out)
            replace BF := Lib.hid ((hb.block _ (lt_some BF.out)).trans BF.out)
            replace BG := Lib.hid ((hb.block _ (lt_some BG.out)).trans BG.out)
            replace HA := Lib.hid (HA.out.keep hb)
            replace HF := Lib.hid (rd_keep HF.out hb)
            replace HG := Lib.hid (rd_keep HG.out hb)
            replace HW := Lib.hid (HW.out.trans (hb.mono HW.out.size))
            replace X7 := Lib.hid (X7.out.keep hb)
            replace Bh := Lib.hid ((hb.block _ (lt_some Bh.out)).trans Bh.out)
            replace X8 := Lib.hid (X8.out.keep hb)
            replace Bi := Lib.hid ((hb.block _ (lt_some Bi.out)).trans Bi.out)
            replace Bj := Lib.hid ((hb.block _ (lt_some Bj.out)).trans Bj.out)
            replace Bk := Lib.hid ((hb.block _ (lt_some Bk.out)).trans Bk.out)
            replace HV := Lib.hid (HV.out.trans (hb.mono HV.out.size))
            replace X9 := Lib.hid (X9.out.keep hb)
            replace X10 := Lib.hid (X10.out.keep hb)
            clear hb hHeld
            have B13 := Lib.hid (hn)
            clear hn hbn
            refine hK.out _ _ ⟨Bh.out, BG.out, trivial⟩ (fun hHeld => ?_)
            clear hK K
            (try simp only [List.getElem_toArray]); (try simp only [List.getElem_cons_succ]); (try simp only [List.getElem_cons_zero]); (try simp only [Act.put]); (try simp only [List.setIfInBounds_toArray]); (try simp only [List.set_cons_succ]); (try simp only [List.set_cons_zero])
            refine wpAnyH_ready (rs := [4]) (by kernel_rfl) (by simp) ?_
            refine AllReadyH.cons rfl (fun K hK => ?_) AllReadyH.nil
            go_simp
            refine (pTop_c (pushJ a g) (by rw [push_len]; have := SA.out.st; omega) g (push_last a g) (by have := Ng.out; omega) _ _ _ V200 X10.out).mono ?_
            rintro e V201 ⟨v11, rfl, hr11, hb⟩
            replace BA := Lib.hid ((hb.block _ (lt_some BA.out)).trans BA.out)
            replace BF := Lib.hid ((hb.block _ (lt_some BF.out)).trans BF.out)
            replace BG := Lib.hid ((hb.block _ (lt_some BG.out)).trans BG.out)
            replace HA := Lib.hid (HA.out.keep hb)
            replace HF := Lib.hid (rd_keep HF.out hb)
            replace HG := Lib.hid (rd_keep HG.out hb)
            replace HW := Lib.hid (HW.out.trans (hb.mono HW.out.size))
            replace X7 := Lib.hid (X7.out.keep hb)
            replace Bh := Lib.hid ((hb.block _ (lt_some Bh.out)).trans Bh.out)
            replace X8 := Lib.hid (X8.out.keep hb)
            replace Bi := Lib.hid ((hb.block _ (lt_some Bi.out)).trans Bi.out)
            replace Bj := Lib.hid ((hb.block _ (lt_some Bj.out)).trans Bj.out)
            replace Bk := Lib.hid ((hb.block _ (lt_some Bk.out)).trans Bk.out)
            replace HV := Lib.hid (HV.out.trans (hb.mono HV.out.size))
            replace X9 := Lib.hid (X9.out.keep hb)
            replace X10 := Lib.hid (X10.out.keep hb)
            replace B13 := Lib.hid ((hb.block _ (lt_some B13.out)).trans B13.out)
            clear hb hHeld
            obtain ⟨o11, k11, rfl, _, _⟩ := Rd.form hr11
            clear hr11
            go_wp2_with fail
            refine hK.out _ _ ⟨Bh.out, BG.out, trivial⟩ (fun hHeld => ?_)
            clear hK K
            (try simp only [List.getElem_toArray]); (try simp only [List.getElem_cons_succ]); (try simp only [List.getElem_cons_zero]); (try simp only [Act.put]); (try simp only [List.setIfInBounds_toArray]); (try simp only [List.set_cons_succ]); (try simp only [List.set_cons_zero])
            refine wpAnyH_take (i := 5) (v := ?v30) rfl (by kernel_rfl) (by kernel_rfl) (by kernel_rfl) (fun _ _ _ h => h) (Or.inl ⟨by rfl, ?hy30⟩) hHeld ?rest30
            case hy30 => (intro w hSw; (try dsimp only at hSw); (try go_split_ands); go_simp; first | done | with_reducible rfl)
            (try simp only [List.getElem_toArray]); (try simp only [List.getElem_cons_succ]); (try simp only [List.getElem_cons_zero]); (try simp only [Act.put]); (try simp only [List.setIfInBounds_toArray]); (try simp only [List.set_cons_succ]); (try simp only [List.set_cons_zero])
            refine wpAnyH_take (i := 6) (v := ?v31) rfl (by kernel_rfl) (by kernel_rfl) (by kernel_rfl) (fun _ _ _ h => h) (Or.inl ⟨by rfl, ?hy31⟩) hHeld ?rest31
            case hy31 => (intro w hSw; (try dsimp only at hSw); (try go_split_ands); go_simp; first | done | with_reducible rfl)
            (try simp only [List.getElem_toArray]); (try simp only [List.getElem_cons_succ]); (try simp only [List.getElem_cons_zero]); (try simp only [Act.put]); (try simp only [List.setIfInBounds_toArray]); (try simp only [List.set_cons_succ]); (try simp only [List.set_cons_zero])
            refine wpAnyH_take (i := 7) (v := ?v32) rfl (by kernel_rfl) (by kernel_rfl) (by kernel_rfl) (fun _ _ _ h => h) (Or.inl ⟨by rfl, ?hy32⟩) hHeld ?rest32
            case hy32 => (intro w hSw; (try dsimp only at hSw); (try go_split_ands); go_simp; first | done | with_reducible rfl)
            (try simp only [List.getElem_toArray]); (try simp only [List.getElem_cons_succ]); (try simp only [List.getElem_cons_zero]); (try simp only [Act.put]); (try simp only [List.setIfInBounds_toArray]); (try simp only [List.set_cons_succ]); (try simp only [List.set_cons_zero])
            refine wpAnyH_ready (rs := [9]) (by kernel_rfl) (by simp) ?_
            refine AllReadyH.cons rfl (fun K hK => ?_) AllReadyH.nil
            rw [if_pos (by rfl)]
            refine wp_store_row 46 _ _ rfl _ rfl rfl B13.out rfl (by kernel_rfl) rfl ?_
            intro Z hb hg hs hn
            have l1 : bh < b13 := Nat.lt_of_lt_of_le (lt_some Bh0.out) L13.out
            have l2 : w.heap.size + 2 < b13 := Nat.lt_of_lt_of_le (lt_some BG0.out) L13.out
            refine hK.out _ _ ⟨(hg _ (by omega)).trans Bh.out, (hg _ (by omega)).trans BG.out, trivial⟩ (fun hHeld => ?_)
            clear hK K
            (try simp only [List.getElem_toArray]); (try simp only [List.getElem_cons_succ]); (try simp only [List.getElem_cons_zero]); (try simp only [Act.put]); (try simp only [List.setIfInBounds_toArray]); (try simp only [List.set_cons_succ]); (try simp only [List.set_cons_zero])
            refine wpAnyH_take (i := 10) (v := ?v33) rfl (by kernel_rfl) (by kernel_rfl) (by kernel_rfl) (fun _ _ _ h => h) (Or.inl ⟨by rfl, ?hy33⟩) hHeld ?rest33
            case hy33 => (intro w hSw; (try dsimp only at hSw); (try go_split_ands); go_simp; first | done | with_reducible rfl)
            (try simp only [List.getElem_toArray]); (try simp only [List.getElem_cons_succ]); (try simp only [List.getElem_cons_zero]); (try simp only [Act.put]); (try simp only [List.setIfInBounds_toArray]); (try simp only [List.set_cons_succ]); (try simp only [List.set_cons_zero])
            refine wpAnyH_done (by kernel_rfl) ?_ _
            go_wp2_with fail
            go_meet
            exact ⟨_, _, rfl, rfl, Lib.hid ⟨hn, L13.out, HV.out.trans (hb.mono L13.out)⟩⟩
        · skip
          go_simp
          refine fresh1 (P := fun W => K _ W) ?_
          intro V169 hb hn hs
          obtain ⟨b13, hbn⟩ : ∃ b, b = V138.heap.size := ⟨_, rfl⟩
          have L13 := Lib.hid (show W64.heap.size ≤ b13 by rw [hbn]; exact HV.out.size)
          rw [← hbn] at hn ⊢
          clear hs
          replace BA := Lib.hid ((hb.block _ (lt_some BA.out)).trans BA.out)
          replace BF := Lib.hid ((hb.block _ (lt_some BF.out)).trans BF.out)
          replace BG := Lib.hid ((hb.block _ (lt_some BG.out)).trans BG.out)
          replace HA := Lib.hid (HA.out.keep hb)
          replace HF := Lib.hid (rd_keep HF.out hb)
          replace HG := Lib.hid (rd_keep HG.out hb)
          replace HW := Lib.hid (HW.out.trans (hb.mono HW.out.size))
          replace X7 := Lib.hid (X7.out.keep hb)
          replace Bh := Lib.hid ((hb.block _ (lt_some Bh.out)).trans Bh.out)
          replace X8 := Lib.hid (X8.out.keep hb)
          replace Bi := Lib.hid ((hb.block _ (lt_some Bi.out)).trans Bi.out)
          replace Bj := Lib.hid ((hb.block _ (lt_some Bj.out)).trans Bj.out)
          replace Bk := Lib.hid ((hb.block _ (lt_some Bk.out)).trans Bk.out)
          replace HV := Lib.hid (HV.out.trans (hb.mono HV.out.size))
          replace X9 := Lib.hid (X9.out.keep hb)
          clear hb hHeld
          have B13 := Lib.hid (hn)
          clear hn hbn
          refine hK.out _ _ ⟨Bh.out, BG.out, trivial⟩ (fun hHeld => ?_)
          clear hK K
          (try simp only [List.getElem_toArray]); (try simp only [List.getElem_cons_succ]); (try simp only [List.getElem_cons_zero]); (try simp only [Act.put]); (try simp only [List.setIfInBounds_toArray]); (try simp only [List.set_cons_succ]); (try simp only [List.set_cons_zero])
          refine wpAnyH_ready (rs := [3]) (by kernel_rfl) (by simp) ?_
          refine AllReadyH.cons rfl (fun K hK => ?_) AllReadyH.nil
          go_simp
          refine (pPush_c a (by have := SA.out.st; omega) g (by have := Ng.out; omega) _ _ _ _ V169 X9.out HG.out).mono ?_
          rintro e V170 ⟨v10, rfl, hx, hb⟩
          replace BA := Lib.hid ((hb.block _ (lt_some BA.out)).trans BA.out)
          replace BF := Lib.hid ((hb.block _ (lt_some BF.out)).trans BF.out)
          replace BG := Lib.hid ((hb.block _ (lt_some BG.out)).trans BG.out)
          replace HA := Lib.hid (HA.out.keep hb)
          replace HF := Lib.hid (rd_keep HF.out hb)
          replace HG := Lib.hid (rd_keep HG.out hb)
          replace HW := Lib.hid (HW.out.trans (hb.mono HW.out.size))
          replace X7 := Lib.hid (X7.out.keep hb)
          replace Bh := Lib.hid ((hb.block _ (lt_some Bh.out)).trans Bh.out)
          replace X8 := Lib.hid (X8.out.keep hb)
          replace Bi := Lib.hid ((hb.block _ (lt_some Bi.out)).trans Bi.out)
          replace Bj := Lib.hid ((hb.block _ (lt_some Bj.out)).trans Bj.out)
          replace Bk := Lib.hid ((hb.block _ (lt_some Bk.out)).trans Bk.out)
          replace HV := Lib.hid (HV.out.trans (hb.mono HV.out.size))
          replace X9 := Lib.hid (X9.out.keep hb)
          replace B13 := Lib.hid ((hb.block _ (lt_some B13.out)).trans B13.out)
          clear hb hHeld
          have X10 := Lib.hid (hx)
          clear hx
          go_wp2_with fail
          refine hK.out _ _ ⟨Bh.out, BG.out, trivial⟩ (fun hHeld => ?_)
          clear hK K
          (try simp only [List.getElem_toArray]); (try simp only [List.getElem_cons_succ]); (try simp only [List.getElem_cons_zero]); (try simp only [Act.put]); (try simp only [List.setIfInBounds_toArray]); (try simp only [List.set_cons_succ]); (try simp only [List.set_cons_zero])
          refine wpAnyH_ready (rs := [4]) (by kernel_rfl) (by simp) ?_
          refine AllReadyH.cons rfl (fun K hK => ?_) AllReadyH.nil
          go_simp
          refine (pTop_c (pushJ a g) (by rw [push_len]; have := SA.out.st; omega) g (push_last a g) (by have := Ng.out; omega) _ _ _ V170 X10.out).mono ?_
          rintro e V171 ⟨v11, rfl, hr11, hb⟩
          replace BA := Lib.hid ((hb.block _ (lt_some BA.out)).trans BA.out)
          replace BF := Lib.hid ((hb.block _ (lt_some BF.out)).trans BF.out)
          replace BG := Lib.hid ((hb.block _ (lt_some BG.out)).trans BG.out)
          replace HA := Lib.hid (HA.out.keep hb)
          replace HF := Lib.hid (rd_keep HF.out hb)
          replace HG := Lib.hid (rd_keep HG.out hb)
          replace HW := Lib.hid (HW.out.trans (hb.mono HW.out.size))
          replace X7 := Lib.hid (X7.out.keep hb)
          replace Bh := Lib.hid ((hb.block _ (lt_some Bh.out)).trans Bh.out)
          replace X8 := Lib.hid (X8.out.keep hb)
          replace Bi := Lib.hid ((hb.block _ (lt_some Bi.out)).trans Bi.out)
          replace Bj := Lib.hid ((hb.block _ (lt_some Bj.out)).trans Bj.out)
          replace Bk := Lib.hid ((hb.block _ (lt_some Bk.out)).trans Bk.out)
          replace HV := Lib.hid (HV.out.trans (hb.mono HV.out.size))
          replace X9 := Lib.hid (X9.out.keep hb)
          replace B13 := Lib.hid ((hb.block _ (lt_some B13.out)).trans B13.out)
          replace X10 := Lib.hid (X10.out.keep hb)
          clear hb hHeld
          obtain ⟨o11, k11, rfl, _, _⟩ := Rd.form hr11
          clear hr11
          go_wp2_with fail
          refine hK.out _ _ ⟨Bh.out, BG.out, trivial⟩ (fun hHeld => ?_)
          clear hK K
          (try simp only [List.getElem_toArray]); (try simp only [List.getElem_cons_succ]); (try simp only [List.getElem_cons_zero]); (try simp only [Act.put]); (try simp only [List.setIfInBounds_toArray]); (try simp only [List.set_cons_succ]); (try simp only [List.set_cons_zero])
          refine wpAnyH_take (i := 5) (v := ?v34) rfl (by kernel_rfl) (by kernel_rfl) (by kernel_rfl) (fun _ _ _ h => h) (Or.inl ⟨by rfl, ?hy34⟩) hHeld ?rest34
          case hy34 => (intro w hSw; (try dsimp only at hSw); (try go_split_ands); go_simp; first | done | with_reducible rfl)
          (try simp only [List.getElem_toArray]); (try simp only [List.getElem_cons_succ]); (try simp only [List.getElem_cons_zero]); (try simp only [Act.put]); (try simp only [List.setIfInBounds_toArray]); (try simp only [List.set_cons_succ]); (try simp only [List.set_cons_zero])
          refine wpAnyH_take (i := 6) (v := ?v35) rfl (by kernel_rfl) (by kernel_rfl) (by kernel_rfl) (fun _ _ _ h => h) (Or.inl ⟨by rfl, ?hy35⟩) hHeld ?rest35
          case hy35 => (intro w hSw; (try dsimp only at hSw); (try go_split_ands); go_simp; first | done | with_reducible rfl)
          (try simp only [List.getElem_toArray]); (try simp only [List.getElem_cons_succ]); (try simp only [List.getElem_cons_zero]); (try simp only [Act.put]); (try simp only [List.setIfInBounds_toArray]); (try simp only [List.set_cons_succ]); (try simp only [List.set_cons_zero])
          refine wpAnyH_take (i := 7) (v := ?v36) rfl (by kernel_rfl) (by kernel_rfl) (by kernel_rfl) (fun _ _ _ h => h) (Or.inl ⟨by rfl, ?hy36⟩) hHeld ?rest36
          case hy36 => (intro w hSw; (try dsimp only at hSw); (try go_split_ands); go_simp; first | done | with_reducible rfl)
          (try simp only [List.getElem_toArray]); (try simp only [List.getElem_cons_succ]); (try simp only [List.getElem_cons_zero]); (try simp only [Act.put]); (try simp only [List.setIfInBounds_toArray]); (try simp only [List.set_cons_succ]); (try simp only [List.set_cons_zero])
          refine wpAnyH_ready (rs := [9]) (by kernel_rfl) (by simp) ?_
          refine AllReadyH.cons rfl (fun K hK => ?_) AllReadyH.nil
          rw [if_pos (by rfl)]
          refine wp_store_row 46 _ _ rfl _ rfl rfl B13.out rfl (by kernel_rfl) rfl ?_
          intro Z hb hg hs hn
          have l1 : bh < b13 := Nat.lt_of_lt_of_le (lt_some Bh0.out) L13.out
          have l2 : w.heap.size + 2 < b13 := Nat.lt_of_lt_of_le (lt_some BG0.out) L13.out
          refine hK.out _ _ ⟨(hg _ (by omega)).trans Bh.out, (hg _ (by omega)).trans BG.out, trivial⟩ (fun hHeld => ?_)
          clear hK K
          (try simp only [List.getElem_toArray]); (try simp only [List.getElem_cons_succ]); (try simp only [List.getElem_cons_zero]); (try simp only [Act.put]); (try simp only [List.setIfInBounds_toArray]); (try simp only [List.set_cons_succ]); (try simp only [List.set_cons_zero])
          refine wpAnyH_take (i := 10) (v := ?v37) rfl (by kernel_rfl) (by kernel_rfl) (by kernel_rfl) (fun _ _ _ h => h) (Or.inl ⟨by rfl, ?hy37⟩) hHeld ?rest37
          case hy37 => (intro w hSw; (try dsimp only at hSw); (try go_split_ands); go_simp; first | done | with_reducible rfl)
          (try simp only [List.getElem_toArray]); (try simp only [List.getElem_cons_succ]); (try simp only [List.getElem_cons_zero]); (try simp only [Act.put]); (try simp only [List.setIfInBounds_toArray]); (try simp only [List.set_cons_succ]); (try simp only [List.set_cons_zero])
          refine wpAnyH_done (by kernel_rfl) ?_ _
          go_wp2_with fail
          go_meet
          exact ⟨_, _, rfl, rfl, Lib.hid ⟨hn, L13.out, HV.out.trans (hb.mono L13.out)⟩⟩
      · skip
        go_simp
        refine fresh1 (P := fun W => K _ W) ?_
        intro V138 hb hn hs
        obtain ⟨b13, hbn⟩ : ∃ b, b = V107.heap.size := ⟨_, rfl⟩
        have L13 := Lib.hid (show W64.heap.size ≤ b13 by rw [hbn]; exact HV.out.size)
        rw [← hbn] at hn ⊢
        clear hs
        replace BA := Lib.hid ((hb.block _ (lt_some BA.out)).trans BA.out)
        replace BF := Lib.hid ((hb.block _ (lt_some BF.out)).trans BF.out)
        replace BG := Lib.hid ((hb.block _ (lt_some BG.out)).trans BG.out)
        replace HA := Lib.hid (HA.out.keep hb)
        replace HF := Lib.hid (rd_keep HF.out hb)
        replace HG := Lib.hid (rd_keep HG.out hb)
        replace HW := Lib.hid (HW.out.trans (hb.mono HW.out.size))
        replace X7 := Lib.hid (X7.out.keep hb)
        replace Bh := Lib.hid ((hb.block _ (lt_some Bh.out)).trans Bh.out)
        replace X8 := Lib.hid (X8.out.keep hb)
        replace Bi := Lib.hid ((hb.block _ (lt_some Bi.out)).trans Bi.out)
        replace Bj := Lib.hid ((hb.block _ (lt_some Bj.out)).trans Bj.out)
        replace Bk := Lib.hid ((hb.block _ (lt_some Bk.out)).trans Bk.out)
        replace HV := Lib.hid (HV.out.trans (hb.mono HV.out.size))
        clear hb hHeld
        have B13 := Lib.hid (hn)
        clear hn hbn
        refine hK.out _ _ ⟨Bh.out, BG.out, trivial⟩ (fun hHeld => ?_)
        clear hK K
        (try simp only [List.getElem_toArray]); (try simp only [List.getElem_cons_succ]); (try simp only [List.getElem_cons_zero]); (try simp only [Act.put]); (try simp only [List.setIfInBounds_toArray]); (try simp only [List.set_cons_succ]); (try simp only [List.set_cons_zero])
        refine wpAnyH_ready (rs := [1]) (by kernel_rfl) (by simp) ?_
        refine AllReadyH.cons rfl (fun K hK => ?_) AllReadyH.nil
        go_simp
        refine (pPop_c (pushJ a f) (by rw [push_len]; have := SA.out.st; omega) _ _ _ V138 X7.out).mono ?_
        rintro e V139 ⟨v9, rfl, hx, hb⟩
        replace BA := Lib.hid ((hb.block _ (lt_some BA.out)).trans BA.out)
        replace BF := Lib.hid ((hb.block _ (lt_some BF.out)).trans BF.out)
        replace BG := Lib.hid ((hb.block _ (lt_some BG.out)).trans BG.out)
        replace HA := Lib.hid (HA.out.keep hb)
        replace HF := Lib.hid (rd_keep HF.out hb)
        replace HG := Lib.hid (rd_keep HG.out hb)
        replace HW := Lib.hid (HW.out.trans (hb.mono HW.out.size))
        replace X7 := Lib.hid (X7.out.keep hb)
        replace Bh := Lib.hid ((hb.block _ (lt_some Bh.out)).trans Bh.out)
        replace X8 := Lib.hid (X8.out.keep hb)
        replace Bi := Lib.hid ((hb.block _ (lt_some Bi.out)).trans Bi.out)
        replace Bj := Lib.hid ((hb.block _ (lt_some Bj.out)).trans Bj.out)
        replace Bk := Lib.hid ((hb.block _ (lt_some Bk.out)).trans Bk.out)
        replace HV := Lib.hid (HV.out.trans (hb.mono HV.out.size))
        replace B13 := Lib.hid ((hb.block _ (lt_some B13.out)).trans B13.out)
        clear hb hHeld
        rw [pop_push] at hx ⊢
        have X9 := Lib.hid (hx)
        clear hx
        go_wp2_with fail
        refine hK.out _ _ ⟨Bh.out, BG.out, trivial⟩ (fun hHeld => ?_)
        clear hK K
        (try simp only [List.getElem_toArray]); (try simp only [List.getElem_cons_succ]); (try simp only [List.getElem_cons_zero]); (try simp only [Act.put]); (try simp only [List.setIfInBounds_toArray]); (try simp only [List.set_cons_succ]); (try simp only [List.set_cons_zero])
        refine wpAnyH_ready (rs := [3]) (by kernel_rfl) (by simp) ?_
        refine AllReadyH.cons rfl (fun K hK => ?_) AllReadyH.nil
        go_simp
        refine (pPush_c a (by have := SA.out.st; omega) g (by have := Ng.out; omega) _ _ _ _ V139 X9.out HG.out).mono ?_
        rintro e V140 ⟨v10, rfl, hx, hb⟩
        replace BA := Lib.hid ((hb.block _ (lt_some BA.out)).trans BA.out)
        replace BF := Lib.hid ((hb.block _ (lt_some BF.out)).trans BF.out)
        replace BG := Lib.hid ((hb.block _ (lt_some BG.out)).trans BG.out)
        replace HA := Lib.hid (HA.out.keep hb)
        replace HF := Lib.hid (rd_keep HF.out hb)
        replace HG := Lib.hid (rd_keep HG.out hb)
        replace HW := Lib.hid (HW.out.trans (hb.mono HW.out.size))
        replace X7 := Lib.hid (X7.out.keep hb)
        replace Bh := Lib.hid ((hb.block _ (lt_some Bh.out)).trans Bh.out)
        replace X8 := Lib.hid (X8.out.keep hb)
        replace Bi := Lib.hid ((hb.block _ (lt_some Bi.out)).trans Bi.out)
        replace Bj := Lib.hid ((hb.block _ (lt_some Bj.out)).trans Bj.out)
        replace Bk := Lib.hid ((hb.block _ (lt_some Bk.out)).trans Bk.out)
        replace HV := Lib.hid (HV.out.trans (hb.mono HV.out.size))
        replace B13 := Lib.hid ((hb.block _ (lt_some B13.out)).trans B13.out)
        replace X9 := Lib.hid (X9.out.keep hb)
        clear hb hHeld
        have X10 := Lib.hid (hx)
        clear hx
        go_wp2_with fail
        refine hK.out _ _ ⟨Bh.out, BG.out, trivial⟩ (fun hHeld => ?_)
        clear hK K
        (try simp only [List.getElem_toArray]); (try simp only [List.getElem_cons_succ]); (try simp only [List.getElem_cons_zero]); (try simp only [Act.put]); (try simp only [List.setIfInBounds_toArray]); (try simp only [List.set_cons_succ]); (try simp only [List.set_cons_zero])
        refine wpAnyH_ready (rs := [4]) (by kernel_rfl) (by simp) ?_
        refine AllReadyH.cons rfl (fun K hK => ?_) AllReadyH.nil
        go_simp
        refine (pTop_c (pushJ a g) (by rw [push_len]; have := SA.out.st; omega) g (push_last a g) (by have := Ng.out; omega) _ _ _ V140 X10.out).mono ?_
        rintro e V141 ⟨v11, rfl, hr11, hb⟩
        replace BA := Lib.hid ((hb.block _ (lt_some BA.out)).trans BA.out)
        replace BF := Lib.hid ((hb.block _ (lt_some BF.out)).trans BF.out)
        replace BG := Lib.hid ((hb.block _ (lt_some BG.out)).trans BG.out)
        replace HA := Lib.hid (HA.out.keep hb)
        replace HF := Lib.hid (rd_keep HF.out hb)
        replace HG := Lib.hid (rd_keep HG.out hb)
        replace HW := Lib.hid (HW.out.trans (hb.mono HW.out.size))
        replace X7 := Lib.hid (X7.out.keep hb)
        replace Bh := Lib.hid ((hb.block _ (lt_some Bh.out)).trans Bh.out)
        replace X8 := Lib.hid (X8.out.keep hb)
        replace Bi := Lib.hid ((hb.block _ (lt_some Bi.out)).trans Bi.out)
        replace Bj := Lib.hid ((hb.block _ (lt_some Bj.out)).trans Bj.out)
        replace Bk := Lib.hid ((hb.block _ (lt_some Bk.out)).trans Bk.out)
        replace HV := Lib.hid (HV.out.trans (hb.mono HV.out.size))
        replace B13 := Lib.hid ((hb.block _ (lt_some B13.out)).trans B13.out)
        replace X9 := Lib.hid (X9.out.keep hb)
        replace X10 := Lib.hid (X10.out.keep hb)
        clear hb hHeld
        obtain ⟨o11, k11, rfl, _, _⟩ := Rd.form hr11
        clear hr11
        go_wp2_with fail
        refine hK.out _ _ ⟨Bh.out, BG.out, trivial⟩ (fun hHeld => ?_)
        clear hK K
        (try simp only [List.getElem_toArray]); (try simp only [List.getElem_cons_succ]); (try simp only [List.getElem_cons_zero]); (try simp only [Act.put]); (try simp only [List.setIfInBounds_toArray]); (try simp only [List.set_cons_succ]); (try simp only [List.set_cons_zero])
        refine wpAnyH_take (i := 5) (v := ?v38) rfl (by kernel_rfl) (by kernel_rfl) (by kernel_rfl) (fun _ _ _ h => h) (Or.inl ⟨by rfl, ?hy38⟩) hHeld ?rest38
        case hy38 => (intro w hSw; (try dsimp only at hSw); (try go_split_ands); go_simp; first | done | with_reducible rfl)
        (try simp only [List.getElem_toArray]); (try simp only [List.getElem_cons_succ]); (try simp only [List.getElem_cons_zero]); (try simp only [Act.put]); (try simp only [List.setIfInBounds_toArray]); (try simp only [List.set_cons_succ]); (try simp only [List.set_cons_zero])
        refine wpAnyH_take (i := 6) (v := ?v39) rfl (by kernel_rfl) (by kernel_rfl) (by kernel_rfl) (fun _ _ _ h => h) (Or.inl ⟨by rfl, ?hy39⟩) hHeld ?rest39
        case hy39 => (intro w hSw; (try dsimp only at hSw); (try go_split_ands); go_simp; first | done | with_reducible rfl)
        (try simp only [List.getElem_toArray]); (try simp only [List.getElem_cons_succ]); (try simp only [List.getElem_cons_zero]); (try simp only [Act.put]); (try simp only [List.setIfInBounds_toArray]); (try simp only [List.set_cons_succ]); (try simp only [List.set_cons_zero])
        refine wpAnyH_take (i := 7) (v := ?v40) rfl (by kernel_rfl) (by kernel_rfl) (by kernel_rfl) (fun _ _ _ h => h) (Or.inl ⟨by rfl, ?hy40⟩) hHeld ?rest40
        case hy40 => (intro w hSw; (try dsimp only at hSw); (try go_split_ands); go_simp; first | done | with_reducible rfl)
        (try simp only [List.getElem_toArray]); (try simp only [List.getElem_cons_succ]); (try simp only [List.getElem_cons_zero]); (try simp only [Act.put]); (try simp only [List.setIfInBounds_toArray]); (try simp only [List.set_cons_succ]); (try simp only [List.set_cons_zero])
        refine wpAnyH_ready (rs := [9]) (by kernel_rfl) (by simp) ?_
        refine AllReadyH.cons rfl (fun K hK => ?_) AllReadyH.nil
        rw [if_pos (by rfl)]
        refine wp_store_row 46 _ _ rfl _ rfl rfl B13.out rfl (by kernel_rfl) rfl ?_
        intro Z hb hg hs hn
        have l1 : bh < b13 := Nat.lt_of_lt_of_le (lt_some Bh0.out) L13.out
        have l2 : w.heap.size + 2 < b13 := Nat.lt_of_lt_of_le (lt_some BG0.out) L13.out
        refine hK.out _ _ ⟨(hg _ (by omega)).trans Bh.out, (hg _ (by omega)).trans BG.out, trivial⟩ (fun hHeld => ?_)
        clear hK K
        (try simp only [List.getElem_toArray]); (try simp only [List.getElem_cons_succ]); (try simp only [List.getElem_cons_zero]); (try simp only [Act.put]); (try simp only [List.setIfInBounds_toArray]); (try simp only [List.set_cons_succ]); (try simp only [List.set_cons_zero])
        refine wpAnyH_take (i := 10) (v := ?v41) rfl (by kernel_rfl) (by kernel_rfl) (by kernel_rfl) (fun _ _ _ h => h) (Or.inl ⟨by rfl, ?hy41⟩) hHeld ?rest41
        case hy41 => (intro w hSw; (try dsimp only at hSw); (try go_split_ands); go_simp; first | done | with_reducible rfl)
        (try simp only [List.getElem_toArray]); (try simp only [List.getElem_cons_succ]); (try simp only [List.getElem_cons_zero]); (try simp only [Act.put]); (try simp only [List.setIfInBounds_toArray]); (try simp only [List.set_cons_succ]); (try simp only [List.set_cons_zero])
        refine wpAnyH_done (by kernel_rfl) ?_ _
        go_wp2_with fail
        go_meet
        exact ⟨_, _, rfl, rfl, Lib.hid ⟨hn, L13.out, HV.out.trans (hb.mono L13.out)⟩⟩
    case rest =>
    obtain ⟨b13, v13, rfl, rfl, HQ⟩ := hcut
    generalize wc = W7 at *
    have hb := HQ.out.bel
    replace BA := Lib.hid ((hb.block _ (lt_some BA.out)).trans BA.out)
    replace BF := Lib.hid ((hb.block _ (lt_some BF.out)).trans BF.out)
    replace BG := Lib.hid ((hb.block _ (lt_some BG.out)).trans BG.out)
    replace HA := Lib.hid (HA.out.keep hb)
    replace HF := Lib.hid (rd_keep HF.out hb)
    replace HG := Lib.hid (rd_keep HG.out hb)
    replace HW := Lib.hid (HW.out.trans (hb.mono HW.out.size))
    replace X7 := Lib.hid (X7.out.keep hb)
    replace Bh := Lib.hid ((hb.block _ (lt_some Bh.out)).trans Bh.out)
    replace X8 := Lib.hid (X8.out.keep hb)
    replace Bi := Lib.hid ((hb.block _ (lt_some Bi.out)).trans Bi.out)
    replace Bj := Lib.hid ((hb.block _ (lt_some Bj.out)).trans Bj.out)
    replace Bk := Lib.hid ((hb.block _ (lt_some Bk.out)).trans Bk.out)
    clear hb
    have Bl := Lib.hid (HQ.out.blk)
    clear HQ
    have hz0 := Bh.out
    go_wp2_with (first | (refine wpList_load_row rfl 27 _ rfl _ rfl 27 _ (0, 0) _ hz0 Tryd.underlying27 rfl (by kernel_rfl) ?_) | (refine wpList_load_rowG rfl 27 _ rfl _ rfl 27 _ (0, 0) _ hz0 Tryd.underlying27 rfl (by kernel_rfl) ?_))
    clear hz0
    refine (pTop_c (pushJ a f) (by rw [push_len]; have := SA.out.st; omega) f (push_last a f) (by have := Nf.out; omega) _ _ _ W7 X7.out).mono ?_
    rintro e V7 ⟨v65, rfl, hr65, hb⟩
    replace BA := Lib.hid ((hb.block _ (lt_some BA.out)).trans BA.out)
    replace BF := Lib.hid ((hb.block _ (lt_some BF.out)).trans BF.out)
    replace BG := Lib.hid ((hb.block _ (lt_some BG.out)).trans BG.out)
    replace HA := Lib.hid (HA.out.keep hb)
    replace HF := Lib.hid (rd_keep HF.out hb)
    replace HG := Lib.hid (rd_keep HG.out hb)
    replace HW := Lib.hid (HW.out.trans (hb.mono HW.out.size))
    replace X7 := Lib.hid (X7.out.keep hb)
    replace Bh := Lib.hid ((hb.block _ (lt_some Bh.out)).trans Bh.out)
    replace X8 := Lib.hid (X8.out.keep hb)
    replace Bi := Lib.hid ((hb.block _ (lt_some Bi.out)).trans Bi.out)
    replace Bj := Lib.hid ((hb.block _ (lt_some Bj.out)).trans Bj.out)
    replace Bk := Lib.hid ((hb.block _ (lt_some Bk.out)).trans Bk.out)
    replace Bl := Lib.hid ((hb.block _ (lt_some Bl.out)).trans Bl.out)
    clear hb
    obtain ⟨o65, k65, rfl, _, _⟩ := Rd.form hr65
    clear hr65
    go_upto_region 9 with (first | (refine wpList_fresh1 ?_; intro V65 hb hA65 hs65) | (refine wpList_store_row rfl 46 _ _ rfl _ rfl rfl hA65 rfl (by kernel_rfl) rfl ?_; intro W65 hb65 hg65 hs65 hB65))
    (try simp only [List.getElem_toArray]); (try simp only [List.getElem_cons_succ]); (try simp only [List.getElem_cons_zero]); (try simp only [Act.put]); (try simp only [List.setIfInBounds_toArray]); (try simp only [List.set_cons_succ]); (try simp only [List.set_cons_zero])
    have hbv : Below V7.heap.size V7 W65 := hb.trans (hb65.mono (Nat.le_refl _))
    obtain ⟨bm, hbn⟩ : ∃ b, b = V7.heap.size := ⟨_, rfl⟩
    have Lm := Lib.hid hbn
    rw [← hbn] at hB65 ⊢
    clear hb hb65 hA65 hs65 hg65 hbn
    have hb := hbv
    clear hbv
    replace BA := Lib.hid ((hb.block _ (lt_some BA.out)).trans BA.out)
    replace BF := Lib.hid ((hb.block _ (lt_some BF.out)).trans BF.out)
    replace BG := Lib.hid ((hb.block _ (lt_some BG.out)).trans BG.out)
    replace HA := Lib.hid (HA.out.keep hb)
    replace HF := Lib.hid (rd_keep HF.out hb)
    replace HG := Lib.hid (rd_keep HG.out hb)
    replace HW := Lib.hid (HW.out.trans (hb.mono HW.out.size))
    replace X7 := Lib.hid (X7.out.keep hb)
    replace Bh := Lib.hid ((hb.block _ (lt_some Bh.out)).trans Bh.out)
    replace X8 := Lib.hid (X8.out.keep hb)
    replace Bi := Lib.hid ((hb.block _ (lt_some Bi.out)).trans Bi.out)
    replace Bj := Lib.hid ((hb.block _ (lt_some Bj.out)).trans Bj.out)
    replace Bk := Lib.hid ((hb.block _ (lt_some Bk.out)).trans Bk.out)
    replace Bl := Lib.hid ((hb.block _ (lt_some Bl.out)).trans Bl.out)
    clear hb
    have Bm := Lib.hid ((show W65.heap[bm]? = some (.cells #[.int .i64 f.fd, .string (bs f.name), .slice o65 f.names.length k65] 46 (0, 0)) from hB65))
    clear hB65
    refine wp_region_held_drew (S := fun V => V.heap[w.heap.size]? = some (.cells #[.int .i64 a.kind, .int .i64 a.p, .int .i64 a.phase, .int .i64 a.fd, .int .i64 a.n, .int .i64 a.mode, .int .i64 a.tries, .int .i64 a.pos, .int .i64 a.flags, .string (bs a.path), .string (bs a.path2), .string (bs a.text), .slice an a.names.length acn, .slice ax a.stack.length acs, .slice ad a.draws.length acd, .bool a.done, .int .i64 a.exit, .string (bs a.out), .int .i64 a.e] 27 (0, 0)) ∧ V.heap[w.heap.size + 1]? = some (.cells #[.int .i64 f.fd, .string (bs f.name), .slice f1 f.names.length f2] 46 (0, 0)) ∧ V.heap[w.heap.size + 2]? = some (.cells #[.int .i64 g.fd, .string (bs g.name), .slice g1 g.names.length g2] 46 (0, 0)) ∧ V.heap[bh]? = some (.cells #[.int .i64 (pushJ a f).kind, .int .i64 (pushJ a f).p, .int .i64 (pushJ a f).phase, .int .i64 (pushJ a f).fd, .int .i64 (pushJ a f).n, .int .i64 (pushJ a f).mode, .int .i64 (pushJ a f).tries, .int .i64 (pushJ a f).pos, .int .i64 (pushJ a f).flags, .string (bs (pushJ a f).path), .string (bs (pushJ a f).path2), .string (bs (pushJ a f).text), .slice an a.names.length acn, .slice s7 (pushJ a f).stack.length c7, .slice ad a.draws.length acd, .bool (pushJ a f).done, .int .i64 (pushJ a f).exit, .string (bs (pushJ a f).out), .int .i64 (pushJ a f).e] 27 (0, 0)) ∧ V.heap[bj]? = some (.cells #[.int .i64 f.fd, .string (bs f.name), .slice o63 f.names.length k63] 46 (0, 0)) ∧ V.heap[bk]? = some (.cells #[.int .i64 g.fd, .string (bs g.name), .slice o64 g.names.length k64] 46 (0, 0)) ∧ V.heap[b13]? = some (.cells #[.int .i64 g.fd, .string (bs g.name), v13] 46 (0, 0)) ∧ V.heap[bm]? = some (.cells #[.int .i64 f.fd, .string (bs f.name), .slice o65 f.names.length k65] 46 (0, 0)) ∧ True) (by kernel_rfl) ⟨BA.out, BF.out, BG.out, Bh.out, Bj.out, Bk.out, Bl.out, Bm.out, trivial⟩ (fun hHeld => ?_)
    have hb := (Below.refl W65.heap.size W65).drew
    generalize W65.drew = V8 at *
    replace BA := Lib.hid ((hb.block _ (lt_some BA.out)).trans BA.out)
    replace BF := Lib.hid ((hb.block _ (lt_some BF.out)).trans BF.out)
    replace BG := Lib.hid ((hb.block _ (lt_some BG.out)).trans BG.out)
    replace HA := Lib.hid (HA.out.keep hb)
    replace HF := Lib.hid (rd_keep HF.out hb)
    replace HG := Lib.hid (rd_keep HG.out hb)
    replace HW := Lib.hid (HW.out.trans (hb.mono HW.out.size))
    replace X7 := Lib.hid (X7.out.keep hb)
    replace Bh := Lib.hid ((hb.block _ (lt_some Bh.out)).trans Bh.out)
    replace X8 := Lib.hid (X8.out.keep hb)
    replace Bi := Lib.hid ((hb.block _ (lt_some Bi.out)).trans Bi.out)
    replace Bj := Lib.hid ((hb.block _ (lt_some Bj.out)).trans Bj.out)
    replace Bk := Lib.hid ((hb.block _ (lt_some Bk.out)).trans Bk.out)
    replace Bl := Lib.hid ((hb.block _ (lt_some Bl.out)).trans Bl.out)
    replace Bm := Lib.hid ((hb.block _ (lt_some Bm.out)).trans Bm.out)
    clear hb
    refine wpAnyH_take (i := 0) (v := ?v42) rfl (by kernel_rfl) (by kernel_rfl) (by kernel_rfl) (fun _ _ _ h => h) (Or.inl ⟨by rfl, ?hy42⟩) hHeld ?rest42
    case hy42 => (intro w hSw; (try dsimp only at hSw); (try go_split_ands); go_simp; first | done | with_reducible rfl)
    (try simp only [List.getElem_toArray]); (try simp only [List.getElem_cons_succ]); (try simp only [List.getElem_cons_zero]); (try simp only [Act.put]); (try simp only [List.setIfInBounds_toArray]); (try simp only [List.set_cons_succ]); (try simp only [List.set_cons_zero])
    refine wpAnyH_take (i := 1) (v := ?v43) rfl (by kernel_rfl) (by kernel_rfl) (by kernel_rfl) (fun _ _ _ h => h) (Or.inl ⟨by rfl, ?hy43⟩) hHeld ?rest43
    case hy43 => (intro w hSw; (try dsimp only at hSw); (try go_split_ands); go_simp; first | done | with_reducible rfl)
    (try simp only [List.getElem_toArray]); (try simp only [List.getElem_cons_succ]); (try simp only [List.getElem_cons_zero]); (try simp only [Act.put]); (try simp only [List.setIfInBounds_toArray]); (try simp only [List.set_cons_succ]); (try simp only [List.set_cons_zero])
    refine wpAnyH_take (i := 2) (v := ?v44) rfl (by kernel_rfl) (by kernel_rfl) (by kernel_rfl) (fun _ _ _ h => h) (Or.inl ⟨by rfl, ?hy44⟩) hHeld ?rest44
    case hy44 => (intro w hSw; (try dsimp only at hSw); (try go_split_ands); go_simp; first | done | with_reducible rfl)
    (try simp only [List.getElem_toArray]); (try simp only [List.getElem_cons_succ]); (try simp only [List.getElem_cons_zero]); (try simp only [Act.put]); (try simp only [List.setIfInBounds_toArray]); (try simp only [List.set_cons_succ]); (try simp only [List.set_cons_zero])
    refine wpAnyH_take (i := 3) (v := ?v45) rfl (by kernel_rfl) (by kernel_rfl) (by kernel_rfl) (fun _ _ _ h => h) (Or.inl ⟨by rfl, ?hy45⟩) hHeld ?rest45
    case hy45 => (intro w hSw; (try dsimp only at hSw); (try go_split_ands); go_simp; first | done | with_reducible rfl)
    (try simp only [List.getElem_toArray]); (try simp only [List.getElem_cons_succ]); (try simp only [List.getElem_cons_zero]); (try simp only [Act.put]); (try simp only [List.setIfInBounds_toArray]); (try simp only [List.set_cons_succ]); (try simp only [List.set_cons_zero])
    refine wpAnyH_take (i := 4) (v := ?v46) rfl (by kernel_rfl) (by kernel_rfl) (by kernel_rfl) (fun _ _ _ h => h) (Or.inl ⟨by rfl, ?hy46⟩) hHeld ?rest46
    case hy46 => (intro w hSw; (try dsimp only at hSw); (try go_split_ands); go_simp; first | done | with_reducible rfl)
    (try simp only [List.getElem_toArray]); (try simp only [List.getElem_cons_succ]); (try simp only [List.getElem_cons_zero]); (try simp only [Act.put]); (try simp only [List.setIfInBounds_toArray]); (try simp only [List.set_cons_succ]); (try simp only [List.set_cons_zero])
    refine wpAnyH_take (i := 5) (v := ?v47) rfl (by kernel_rfl) (by kernel_rfl) (by kernel_rfl) (fun _ _ _ h => h) (Or.inl ⟨by rfl, ?hy47⟩) hHeld ?rest47
    case hy47 => (intro w hSw; (try dsimp only at hSw); (try go_split_ands); go_simp; first | done | with_reducible rfl)
    (try simp only [List.getElem_toArray]); (try simp only [List.getElem_cons_succ]); (try simp only [List.getElem_cons_zero]); (try simp only [Act.put]); (try simp only [List.setIfInBounds_toArray]); (try simp only [List.set_cons_succ]); (try simp only [List.set_cons_zero])
    refine wpAnyH_take (i := 6) (v := ?v48) rfl (by kernel_rfl) (by kernel_rfl) (by kernel_rfl) (fun _ _ _ h => h) (Or.inl ⟨by rfl, ?hy48⟩) hHeld ?rest48
    case hy48 => (intro w hSw; (try dsimp only at hSw); (try go_split_ands); go_simp; first | done | with_reducible rfl)
    (try simp only [List.getElem_toArray]); (try simp only [List.getElem_cons_succ]); (try simp only [List.getElem_cons_zero]); (try simp only [Act.put]); (try simp only [List.setIfInBounds_toArray]); (try simp only [List.set_cons_succ]); (try simp only [List.set_cons_zero])
    refine wpAnyH_take (i := 7) (v := ?v49) rfl (by kernel_rfl) (by kernel_rfl) (by kernel_rfl) (fun _ _ _ h => h) (Or.inl ⟨by rfl, ?hy49⟩) hHeld ?rest49
    case hy49 => (intro w hSw; (try dsimp only at hSw); (try go_split_ands); go_simp; first | done | with_reducible rfl)
    (try simp only [List.getElem_toArray]); (try simp only [List.getElem_cons_succ]); (try simp only [List.getElem_cons_zero]); (try simp only [Act.put]); (try simp only [List.setIfInBounds_toArray]); (try simp only [List.set_cons_succ]); (try simp only [List.set_cons_zero])
    refine wpAnyH_take (i := 8) (v := ?v50) rfl (by kernel_rfl) (by kernel_rfl) (by kernel_rfl) (fun _ _ _ h => h) (Or.inl ⟨by rfl, ?hy50⟩) hHeld ?rest50
    case hy50 => (intro w hSw; (try dsimp only at hSw); (try go_split_ands); go_simp; first | done | with_reducible rfl)
    (try simp only [List.getElem_toArray]); (try simp only [List.getElem_cons_succ]); (try simp only [List.getElem_cons_zero]); (try simp only [Act.put]); (try simp only [List.setIfInBounds_toArray]); (try simp only [List.set_cons_succ]); (try simp only [List.set_cons_zero])
    refine wpAnyH_take (i := 9) (v := ?v51) rfl (by kernel_rfl) (by kernel_rfl) (by kernel_rfl) (fun _ _ _ h => h) (Or.inl ⟨by rfl, ?hy51⟩) hHeld ?rest51
    case hy51 => (intro w hSw; (try dsimp only at hSw); (try go_split_ands); go_simp; first | done | with_reducible rfl)
    (try simp only [List.getElem_toArray]); (try simp only [List.getElem_cons_succ]); (try simp only [List.getElem_cons_zero]); (try simp only [Act.put]); (try simp only [List.setIfInBounds_toArray]); (try simp only [List.set_cons_succ]); (try simp only [List.set_cons_zero])
    refine wpAnyH_take (i := 10) (v := ?v52) rfl (by kernel_rfl) (by kernel_rfl) (by kernel_rfl) (fun _ _ _ h => h) (Or.inl ⟨by rfl, ?hy52⟩) hHeld ?rest52
    case hy52 => (intro w hSw; (try dsimp only at hSw); (try go_split_ands); go_simp; first | done | with_reducible rfl)
    (try simp only [List.getElem_toArray]); (try simp only [List.getElem_cons_succ]); (try simp only [List.getElem_cons_zero]); (try simp only [Act.put]); (try simp only [List.setIfInBounds_toArray]); (try simp only [List.set_cons_succ]); (try simp only [List.set_cons_zero])
    refine wpAnyH_take (i := 11) (v := ?v53) rfl (by kernel_rfl) (by kernel_rfl) (by kernel_rfl) (fun _ _ _ h => h) (Or.inl ⟨by rfl, ?hy53⟩) hHeld ?rest53
    case hy53 => (intro w hSw; (try dsimp only at hSw); (try go_split_ands); go_simp; first | done | with_reducible rfl)
    (try simp only [List.getElem_toArray]); (try simp only [List.getElem_cons_succ]); (try simp only [List.getElem_cons_zero]); (try simp only [Act.put]); (try simp only [List.setIfInBounds_toArray]); (try simp only [List.set_cons_succ]); (try simp only [List.set_cons_zero])
    refine wpAnyH_take (i := 12) (v := ?v54) rfl (by kernel_rfl) (by kernel_rfl) (by kernel_rfl) (fun _ _ _ h => h) (Or.inl ⟨by rfl, ?hy54⟩) hHeld ?rest54
    case hy54 => (intro w hSw; have hc := (cells3 hSw.2.2.2.2.1).1; (try dsimp only at hSw); (try go_split_ands); go_simp; first | done | with_reducible rfl)
    (try simp only [List.getElem_toArray]); (try simp only [List.getElem_cons_succ]); (try simp only [List.getElem_cons_zero]); (try simp only [Act.put]); (try simp only [List.setIfInBounds_toArray]); (try simp only [List.set_cons_succ]); (try simp only [List.set_cons_zero])
    refine wpAnyH_take (i := 13) (v := ?v55) rfl (by kernel_rfl) (by kernel_rfl) (by kernel_rfl) (fun _ _ _ h => h) (Or.inl ⟨by rfl, ?hy55⟩) hHeld ?rest55
    case hy55 => (intro w hSw; (try dsimp only at hSw); (try go_split_ands); go_simp; first | done | with_reducible rfl)
    (try simp only [List.getElem_toArray]); (try simp only [List.getElem_cons_succ]); (try simp only [List.getElem_cons_zero]); (try simp only [Act.put]); (try simp only [List.setIfInBounds_toArray]); (try simp only [List.set_cons_succ]); (try simp only [List.set_cons_zero])
    refine wpAnyH_take (i := 14) (v := ?v56) rfl (by kernel_rfl) (by kernel_rfl) (by kernel_rfl) (fun _ _ _ h => h) (Or.inl ⟨by rfl, ?hy56⟩) hHeld ?rest56
    case hy56 => (intro w hSw; have hc := (cells3 hSw.2.1).1; (try dsimp only at hSw); (try go_split_ands); go_simp; first | done | with_reducible rfl)
    (try simp only [List.getElem_toArray]); (try simp only [List.getElem_cons_succ]); (try simp only [List.getElem_cons_zero]); (try simp only [Act.put]); (try simp only [List.setIfInBounds_toArray]); (try simp only [List.set_cons_succ]); (try simp only [List.set_cons_zero])
    refine wpAnyH_take (i := 15) (v := ?v57) rfl (by kernel_rfl) (by kernel_rfl) (by kernel_rfl) (fun _ _ _ h => h) (Or.inl ⟨by rfl, ?hy57⟩) hHeld ?rest57
    case hy57 => (intro w hSw; (try dsimp only at hSw); (try go_split_ands); go_simp; first | done | with_reducible rfl)
    (try simp only [List.getElem_toArray]); (try simp only [List.getElem_cons_succ]); (try simp only [List.getElem_cons_zero]); (try simp only [Act.put]); (try simp only [List.setIfInBounds_toArray]); (try simp only [List.set_cons_succ]); (try simp only [List.set_cons_zero])
    refine wpAnyH_take (i := 16) (v := ?v58) rfl (by kernel_rfl) (by kernel_rfl) (by kernel_rfl) (fun _ _ _ h => h) (Or.inl ⟨by rfl, ?hy58⟩) hHeld ?rest58
    case hy58 => (intro w hSw; (try dsimp only at hSw); (try go_split_ands); go_simp; first | done | with_reducible rfl)
    (try simp only [List.getElem_toArray]); (try simp only [List.getElem_cons_succ]); (try simp only [List.getElem_cons_zero]); (try simp only [Act.put]); (try simp only [List.setIfInBounds_toArray]); (try simp only [List.set_cons_succ]); (try simp only [List.set_cons_zero])
    refine wpAnyH_take (i := 17) (v := ?v59) rfl (by kernel_rfl) (by kernel_rfl) (by kernel_rfl) (fun _ _ _ h => h) (Or.inl ⟨by rfl, ?hy59⟩) hHeld ?rest59
    case hy59 => (intro w hSw; (try dsimp only at hSw); (try go_split_ands); go_simp; first | done | with_reducible rfl)
    (try simp only [List.getElem_toArray]); (try simp only [List.getElem_cons_succ]); (try simp only [List.getElem_cons_zero]); (try simp only [Act.put]); (try simp only [List.setIfInBounds_toArray]); (try simp only [List.set_cons_succ]); (try simp only [List.set_cons_zero])
    refine wpAnyH_take (i := 18) (v := ?v60) rfl (by kernel_rfl) (by kernel_rfl) (by kernel_rfl) (fun _ _ _ h => h) (Or.inl ⟨by rfl, ?hy60⟩) hHeld ?rest60
    case hy60 => (intro w hSw; (try dsimp only at hSw); (try go_split_ands); go_simp; first | done | with_reducible rfl)
    (try simp only [List.getElem_toArray]); (try simp only [List.getElem_cons_succ]); (try simp only [List.getElem_cons_zero]); (try simp only [Act.put]); (try simp only [List.setIfInBounds_toArray]); (try simp only [List.set_cons_succ]); (try simp only [List.set_cons_zero])
    refine wpAnyH_take (i := 19) (v := ?v61) rfl (by kernel_rfl) (by kernel_rfl) (by kernel_rfl) (fun _ _ _ h => h) (Or.inl ⟨by rfl, ?hy61⟩) hHeld ?rest61
    case hy61 => (intro w hSw; have hc := (cells3 hSw.2.2.2.2.2.1).1; (try dsimp only at hSw); (try go_split_ands); go_simp; first | done | with_reducible rfl)
    (try simp only [List.getElem_toArray]); (try simp only [List.getElem_cons_succ]); (try simp only [List.getElem_cons_zero]); (try simp only [Act.put]); (try simp only [List.setIfInBounds_toArray]); (try simp only [List.set_cons_succ]); (try simp only [List.set_cons_zero])
    refine wpAnyH_take (i := 20) (v := ?v62) rfl (by kernel_rfl) (by kernel_rfl) (by kernel_rfl) (fun _ _ _ h => h) (Or.inl ⟨by rfl, ?hy62⟩) hHeld ?rest62
    case hy62 => (intro w hSw; (try dsimp only at hSw); (try go_split_ands); go_simp; first | done | with_reducible rfl)
    (try simp only [List.getElem_toArray]); (try simp only [List.getElem_cons_succ]); (try simp only [List.getElem_cons_zero]); (try simp only [Act.put]); (try simp only [List.setIfInBounds_toArray]); (try simp only [List.set_cons_succ]); (try simp only [List.set_cons_zero])
    refine wpAnyH_take (i := 21) (v := ?v63) rfl (by kernel_rfl) (by kernel_rfl) (by kernel_rfl) (fun _ _ _ h => h) (Or.inl ⟨by rfl, ?hy63⟩) hHeld ?rest63
    case hy63 => (intro w hSw; have hc := (cells3 hSw.2.2.1).1; (try dsimp only at hSw); (try go_split_ands); go_simp; first | done | with_reducible rfl)
    (try simp only [List.getElem_toArray]); (try simp only [List.getElem_cons_succ]); (try simp only [List.getElem_cons_zero]); (try simp only [Act.put]); (try simp only [List.setIfInBounds_toArray]); (try simp only [List.set_cons_succ]); (try simp only [List.set_cons_zero])
    refine wpAnyH_take (i := 22) (v := ?v64) rfl (by kernel_rfl) (by kernel_rfl) (by kernel_rfl) (fun _ _ _ h => h) (Or.inl ⟨by rfl, ?hy64⟩) hHeld ?rest64
    case hy64 => (intro w hSw; (try dsimp only at hSw); (try go_split_ands); go_simp; first | done | with_reducible rfl)
    (try simp only [List.getElem_toArray]); (try simp only [List.getElem_cons_succ]); (try simp only [List.getElem_cons_zero]); (try simp only [Act.put]); (try simp only [List.setIfInBounds_toArray]); (try simp only [List.set_cons_succ]); (try simp only [List.set_cons_zero])
    refine wpAnyH_take (i := 23) (v := ?v65) rfl (by kernel_rfl) (by kernel_rfl) (by kernel_rfl) (fun _ _ _ h => h) (Or.inl ⟨by rfl, ?hy65⟩) hHeld ?rest65
    case hy65 => (intro w hSw; (try dsimp only at hSw); (try go_split_ands); go_simp; first | done | with_reducible rfl)
    (try simp only [List.getElem_toArray]); (try simp only [List.getElem_cons_succ]); (try simp only [List.getElem_cons_zero]); (try simp only [Act.put]); (try simp only [List.setIfInBounds_toArray]); (try simp only [List.set_cons_succ]); (try simp only [List.set_cons_zero])
    refine wpAnyH_take (i := 24) (v := ?v66) rfl (by kernel_rfl) (by kernel_rfl) (by kernel_rfl) (fun _ _ _ h => h) (Or.inl ⟨by rfl, ?hy66⟩) hHeld ?rest66
    case hy66 => (intro w hSw; (try dsimp only at hSw); (try go_split_ands); go_simp; first | done | with_reducible rfl)
    (try simp only [List.getElem_toArray]); (try simp only [List.getElem_cons_succ]); (try simp only [List.getElem_cons_zero]); (try simp only [Act.put]); (try simp only [List.setIfInBounds_toArray]); (try simp only [List.set_cons_succ]); (try simp only [List.set_cons_zero])
    refine wpAnyH_take (i := 25) (v := ?v67) rfl (by kernel_rfl) (by kernel_rfl) (by kernel_rfl) (fun _ _ _ h => h) (Or.inl ⟨by rfl, ?hy67⟩) hHeld ?rest67
    case hy67 => (intro w hSw; (try dsimp only at hSw); (try go_split_ands); go_simp; first | done | with_reducible rfl)
    (try simp only [List.getElem_toArray]); (try simp only [List.getElem_cons_succ]); (try simp only [List.getElem_cons_zero]); (try simp only [Act.put]); (try simp only [List.setIfInBounds_toArray]); (try simp only [List.set_cons_succ]); (try simp only [List.set_cons_zero])
    refine wpAnyH_take (i := 26) (v := ?v68) rfl (by kernel_rfl) (by kernel_rfl) (by kernel_rfl) (fun _ _ _ h => h) (Or.inl ⟨by rfl, ?hy68⟩) hHeld ?rest68
    case hy68 => (intro w hSw; have hc := (cells3 hSw.2.2.2.2.2.2.1).1; (try dsimp only at hSw); (try go_split_ands); go_simp; first | done | with_reducible rfl)
    (try simp only [List.getElem_toArray]); (try simp only [List.getElem_cons_succ]); (try simp only [List.getElem_cons_zero]); (try simp only [Act.put]); (try simp only [List.setIfInBounds_toArray]); (try simp only [List.set_cons_succ]); (try simp only [List.set_cons_zero])
    refine wpAnyH_take (i := 27) (v := ?v69) rfl (by kernel_rfl) (by kernel_rfl) (by kernel_rfl) (fun _ _ _ h => h) (Or.inl ⟨by rfl, ?hy69⟩) hHeld ?rest69
    case hy69 => (intro w hSw; (try dsimp only at hSw); (try go_split_ands); go_simp; first | done | with_reducible rfl)
    (try simp only [List.getElem_toArray]); (try simp only [List.getElem_cons_succ]); (try simp only [List.getElem_cons_zero]); (try simp only [Act.put]); (try simp only [List.setIfInBounds_toArray]); (try simp only [List.set_cons_succ]); (try simp only [List.set_cons_zero])
    refine wpAnyH_take (i := 28) (v := ?v70) rfl (by kernel_rfl) (by kernel_rfl) (by kernel_rfl) (fun _ _ _ h => h) (Or.inl ⟨by rfl, ?hy70⟩) hHeld ?rest70
    case hy70 => (intro w hSw; have hc := (cells3 hSw.2.2.1).1; (try dsimp only at hSw); (try go_split_ands); go_simp; first | done | with_reducible rfl)
    (try simp only [List.getElem_toArray]); (try simp only [List.getElem_cons_succ]); (try simp only [List.getElem_cons_zero]); (try simp only [Act.put]); (try simp only [List.setIfInBounds_toArray]); (try simp only [List.set_cons_succ]); (try simp only [List.set_cons_zero])
    refine wpAnyH_take (i := 29) (v := ?v71) rfl (by kernel_rfl) (by kernel_rfl) (by kernel_rfl) (fun _ _ _ h => h) (Or.inl ⟨by rfl, ?hy71⟩) hHeld ?rest71
    case hy71 => (intro w hSw; (try dsimp only at hSw); (try go_split_ands); go_simp; first | done | with_reducible rfl)
    (try simp only [List.getElem_toArray]); (try simp only [List.getElem_cons_succ]); (try simp only [List.getElem_cons_zero]); (try simp only [Act.put]); (try simp only [List.setIfInBounds_toArray]); (try simp only [List.set_cons_succ]); (try simp only [List.set_cons_zero])
    refine wpAnyH_take (i := 30) (v := ?v72) rfl (by kernel_rfl) (by kernel_rfl) (by kernel_rfl) (fun _ _ _ h => h) (Or.inl ⟨by rfl, ?hy72⟩) hHeld ?rest72
    case hy72 => (intro w hSw; (try dsimp only at hSw); (try go_split_ands); go_simp; first | done | with_reducible rfl)
    (try simp only [List.getElem_toArray]); (try simp only [List.getElem_cons_succ]); (try simp only [List.getElem_cons_zero]); (try simp only [Act.put]); (try simp only [List.setIfInBounds_toArray]); (try simp only [List.set_cons_succ]); (try simp only [List.set_cons_zero])
    refine wpAnyH_take (i := 31) (v := ?v73) rfl (by kernel_rfl) (by kernel_rfl) (by kernel_rfl) (fun _ _ _ h => h) (Or.inl ⟨by rfl, ?hy73⟩) hHeld ?rest73
    case hy73 => (intro w hSw; (try dsimp only at hSw); (try go_split_ands); go_simp; first | done | with_reducible rfl)
    (try simp only [List.getElem_toArray]); (try simp only [List.getElem_cons_succ]); (try simp only [List.getElem_cons_zero]); (try simp only [Act.put]); (try simp only [List.setIfInBounds_toArray]); (try simp only [List.set_cons_succ]); (try simp only [List.set_cons_zero])
    refine wpAnyH_take (i := 32) (v := ?v74) rfl (by kernel_rfl) (by kernel_rfl) (by kernel_rfl) (fun _ _ _ h => h) (Or.inl ⟨by rfl, ?hy74⟩) hHeld ?rest74
    case hy74 => (intro w hSw; (try dsimp only at hSw); (try go_split_ands); go_simp; first | done | with_reducible rfl)
    (try simp only [List.getElem_toArray]); (try simp only [List.getElem_cons_succ]); (try simp only [List.getElem_cons_zero]); (try simp only [Act.put]); (try simp only [List.setIfInBounds_toArray]); (try simp only [List.set_cons_succ]); (try simp only [List.set_cons_zero])
    refine wpAnyH_take (i := 33) (v := ?v75) rfl (by kernel_rfl) (by kernel_rfl) (by kernel_rfl) (fun _ _ _ h => h) (Or.inl ⟨by rfl, ?hy75⟩) hHeld ?rest75
    case hy75 => (intro w hSw; have hc := (cells3 hSw.2.2.2.2.2.2.2.1).1; (try dsimp only at hSw); (try go_split_ands); go_simp; first | done | with_reducible rfl)
    (try simp only [List.getElem_toArray]); (try simp only [List.getElem_cons_succ]); (try simp only [List.getElem_cons_zero]); (try simp only [Act.put]); (try simp only [List.setIfInBounds_toArray]); (try simp only [List.set_cons_succ]); (try simp only [List.set_cons_zero])
    refine wpAnyH_take (i := 34) (v := ?v76) rfl (by kernel_rfl) (by kernel_rfl) (by kernel_rfl) (fun _ _ _ h => h) (Or.inl ⟨by rfl, ?hy76⟩) hHeld ?rest76
    case hy76 => (intro w hSw; (try dsimp only at hSw); (try go_split_ands); go_simp; first | done | with_reducible rfl)
    (try simp only [List.getElem_toArray]); (try simp only [List.getElem_cons_succ]); (try simp only [List.getElem_cons_zero]); (try simp only [Act.put]); (try simp only [List.setIfInBounds_toArray]); (try simp only [List.set_cons_succ]); (try simp only [List.set_cons_zero])
    refine wpAnyH_take (i := 35) (v := ?v77) rfl (by kernel_rfl) (by kernel_rfl) (by kernel_rfl) (fun _ _ _ h => h) (Or.inl ⟨by rfl, ?hy77⟩) hHeld ?rest77
    case hy77 => (intro w hSw; have hc := (cells3 hSw.2.1).1; (try dsimp only at hSw); (try go_split_ands); go_simp; first | done | with_reducible rfl)
    (try simp only [List.getElem_toArray]); (try simp only [List.getElem_cons_succ]); (try simp only [List.getElem_cons_zero]); (try simp only [Act.put]); (try simp only [List.setIfInBounds_toArray]); (try simp only [List.set_cons_succ]); (try simp only [List.set_cons_zero])
    refine wpAnyH_take (i := 36) (v := ?v78) rfl (by kernel_rfl) (by kernel_rfl) (by kernel_rfl) (fun _ _ _ h => h) (Or.inl ⟨by rfl, ?hy78⟩) hHeld ?rest78
    case hy78 => (intro w hSw; (try dsimp only at hSw); (try go_split_ands); go_simp; first | done | with_reducible rfl)
    (try simp only [List.getElem_toArray]); (try simp only [List.getElem_cons_succ]); (try simp only [List.getElem_cons_zero]); (try simp only [Act.put]); (try simp only [List.setIfInBounds_toArray]); (try simp only [List.set_cons_succ]); (try simp only [List.set_cons_zero])
    refine wpAnyH_take (i := 37) (v := ?v79) rfl (by kernel_rfl) (by kernel_rfl) (by kernel_rfl) (fun _ _ _ h => h) (Or.inl ⟨by rfl, ?hy79⟩) hHeld ?rest79
    case hy79 => (intro w hSw; (try dsimp only at hSw); (try go_split_ands); go_simp; first | done | with_reducible rfl)
    (try simp only [List.getElem_toArray]); (try simp only [List.getElem_cons_succ]); (try simp only [List.getElem_cons_zero]); (try simp only [Act.put]); (try simp only [List.setIfInBounds_toArray]); (try simp only [List.set_cons_succ]); (try simp only [List.set_cons_zero])
    refine wpAnyH_take (i := 38) (v := ?v80) rfl (by kernel_rfl) (by kernel_rfl) (by kernel_rfl) (fun _ _ _ h => h) (Or.inl ⟨by rfl, ?hy80⟩) hHeld ?rest80
    case hy80 => (intro w hSw; (try dsimp only at hSw); (try go_split_ands); go_simp; first | done | with_reducible rfl)
    (try simp only [List.getElem_toArray]); (try simp only [List.getElem_cons_succ]); (try simp only [List.getElem_cons_zero]); (try simp only [Act.put]); (try simp only [List.setIfInBounds_toArray]); (try simp only [List.set_cons_succ]); (try simp only [List.set_cons_zero])
    refine wpAnyH_take (i := 39) (v := ?v81) rfl (by kernel_rfl) (by kernel_rfl) (by kernel_rfl) (fun _ _ _ h => h) (Or.inl ⟨by rfl, ?hy81⟩) hHeld ?rest81
    case hy81 => (intro w hSw; (try dsimp only at hSw); (try go_split_ands); go_simp; first | done | with_reducible rfl)
    (try simp only [List.getElem_toArray]); (try simp only [List.getElem_cons_succ]); (try simp only [List.getElem_cons_zero]); (try simp only [Act.put]); (try simp only [List.setIfInBounds_toArray]); (try simp only [List.set_cons_succ]); (try simp only [List.set_cons_zero])
    refine wpAnyH_take (i := 40) (v := ?v82) rfl (by kernel_rfl) (by kernel_rfl) (by kernel_rfl) (fun _ _ _ h => h) (Or.inl ⟨by rfl, ?hy82⟩) hHeld ?rest82
    case hy82 => (intro w hSw; have hc := (cells3 hSw.2.2.2.2.2.2.2.1).2.1; (try dsimp only at hSw); (try go_split_ands); go_simp; first | done | with_reducible rfl)
    (try simp only [List.getElem_toArray]); (try simp only [List.getElem_cons_succ]); (try simp only [List.getElem_cons_zero]); (try simp only [Act.put]); (try simp only [List.setIfInBounds_toArray]); (try simp only [List.set_cons_succ]); (try simp only [List.set_cons_zero])
    refine wpAnyH_take (i := 41) (v := ?v83) rfl (by kernel_rfl) (by kernel_rfl) (by kernel_rfl) (fun _ _ _ h => h) (Or.inl ⟨by rfl, ?hy83⟩) hHeld ?rest83
    case hy83 => (intro w hSw; (try dsimp only at hSw); (try go_split_ands); go_simp; first | done | with_reducible rfl)
    (try simp only [List.getElem_toArray]); (try simp only [List.getElem_cons_succ]); (try simp only [List.getElem_cons_zero]); (try simp only [Act.put]); (try simp only [List.setIfInBounds_toArray]); (try simp only [List.set_cons_succ]); (try simp only [List.set_cons_zero])
    refine wpAnyH_take (i := 42) (v := ?v84) rfl (by kernel_rfl) (by kernel_rfl) (by kernel_rfl) (fun _ _ _ h => h) (Or.inl ⟨by rfl, ?hy84⟩) hHeld ?rest84
    case hy84 => (intro w hSw; have hc := (cells3 hSw.2.1).2.1; (try dsimp only at hSw); (try go_split_ands); go_simp; first | done | with_reducible rfl)
    (try simp only [List.getElem_toArray]); (try simp only [List.getElem_cons_succ]); (try simp only [List.getElem_cons_zero]); (try simp only [Act.put]); (try simp only [List.setIfInBounds_toArray]); (try simp only [List.set_cons_succ]); (try simp only [List.set_cons_zero])
    refine wpAnyH_take (i := 43) (v := ?v85) rfl (by kernel_rfl) (by kernel_rfl) (by kernel_rfl) (fun _ _ _ h => h) (Or.inl ⟨by rfl, ?hy85⟩) hHeld ?rest85
    case hy85 => (intro w hSw; (try dsimp only at hSw); (try go_split_ands); go_simp; first | done | with_reducible rfl)
    (try simp only [List.getElem_toArray]); (try simp only [List.getElem_cons_succ]); (try simp only [List.getElem_cons_zero]); (try simp only [Act.put]); (try simp only [List.setIfInBounds_toArray]); (try simp only [List.set_cons_succ]); (try simp only [List.set_cons_zero])
    refine wpAnyH_take (i := 44) (v := ?v86) rfl (by kernel_rfl) (by kernel_rfl) (by kernel_rfl) (fun _ _ _ h => h) (Or.inl ⟨by rfl, ?hy86⟩) hHeld ?rest86
    case hy86 => (intro w hSw; (try dsimp only at hSw); (try go_split_ands); go_simp; first | done | with_reducible rfl)
    (try simp only [List.getElem_toArray]); (try simp only [List.getElem_cons_succ]); (try simp only [List.getElem_cons_zero]); (try simp only [Act.put]); (try simp only [List.setIfInBounds_toArray]); (try simp only [List.set_cons_succ]); (try simp only [List.set_cons_zero])
    refine wpAnyH_take (i := 45) (v := ?v87) rfl (by kernel_rfl) (by kernel_rfl) (by kernel_rfl) (fun _ _ _ h => h) (Or.inl ⟨by rfl, ?hy87⟩) hHeld ?rest87
    case hy87 => (intro w hSw; (try dsimp only at hSw); (try go_split_ands); go_simp; first | done | with_reducible rfl)
    (try simp only [List.getElem_toArray]); (try simp only [List.getElem_cons_succ]); (try simp only [List.getElem_cons_zero]); (try simp only [Act.put]); (try simp only [List.setIfInBounds_toArray]); (try simp only [List.set_cons_succ]); (try simp only [List.set_cons_zero])
    refine wpAnyH_take (i := 46) rfl (by kernel_rfl) (by kernel_rfl) (by kernel_rfl) (fun _ _ _ h => h) (yieldsIf_load_row (by rfl) 27 _ rfl _ rfl 27 _ (0, 0) _ (fun _ h => h.2.2.2.1) Tryd.underlying27 rfl (by kernel_rfl)) hHeld ?_
    (try simp only [List.getElem_toArray]); (try simp only [List.getElem_cons_succ]); (try simp only [List.getElem_cons_zero]); (try simp only [Act.put]); (try simp only [List.setIfInBounds_toArray]); (try simp only [List.set_cons_succ]); (try simp only [List.set_cons_zero])
    refine wpAnyH_take (i := 48) rfl (by kernel_rfl) (by kernel_rfl) (by kernel_rfl) (fun _ _ _ h => h) (yieldsIf_load_row (by rfl) 27 _ rfl _ rfl 27 _ (0, 0) _ (fun _ h => h.1) Tryd.underlying27 rfl (by kernel_rfl)) hHeld ?_
    (try simp only [List.getElem_toArray]); (try simp only [List.getElem_cons_succ]); (try simp only [List.getElem_cons_zero]); (try simp only [Act.put]); (try simp only [List.setIfInBounds_toArray]); (try simp only [List.set_cons_succ]); (try simp only [List.set_cons_zero])
    refine wpAnyH_ready (rs := [47]) (by kernel_rfl) (by simp) ?_
    refine AllReadyH.cons rfl (fun K hK => ?_) AllReadyH.nil
    go_simp
    refine (pPop_c (pushJ a f) (by rw [push_len]; have := SA.out.st; omega) _ _ _ V8 X7.out).mono ?_
    rintro e V9 ⟨v12, rfl, hx, hb⟩
    replace BA := Lib.hid ((hb.block _ (lt_some BA.out)).trans BA.out)
    replace BF := Lib.hid ((hb.block _ (lt_some BF.out)).trans BF.out)
    replace BG := Lib.hid ((hb.block _ (lt_some BG.out)).trans BG.out)
    replace HA := Lib.hid (HA.out.keep hb)
    replace HF := Lib.hid (rd_keep HF.out hb)
    replace HG := Lib.hid (rd_keep HG.out hb)
    replace HW := Lib.hid (HW.out.trans (hb.mono HW.out.size))
    replace X7 := Lib.hid (X7.out.keep hb)
    replace Bh := Lib.hid ((hb.block _ (lt_some Bh.out)).trans Bh.out)
    replace X8 := Lib.hid (X8.out.keep hb)
    replace Bi := Lib.hid ((hb.block _ (lt_some Bi.out)).trans Bi.out)
    replace Bj := Lib.hid ((hb.block _ (lt_some Bj.out)).trans Bj.out)
    replace Bk := Lib.hid ((hb.block _ (lt_some Bk.out)).trans Bk.out)
    replace Bl := Lib.hid ((hb.block _ (lt_some Bl.out)).trans Bl.out)
    replace Bm := Lib.hid ((hb.block _ (lt_some Bm.out)).trans Bm.out)
    clear hb hHeld
    rw [pop_push] at hx ⊢
    have X12 := Lib.hid (hx)
    clear hx
    go_wp2_with fail
    refine hK.out _ _ ⟨BA.out, BF.out, BG.out, Bh.out, Bj.out, Bk.out, Bl.out, Bm.out, trivial⟩ (fun hHeld => ?_)
    clear hK K
    (try simp only [List.getElem_toArray]); (try simp only [List.getElem_cons_succ]); (try simp only [List.getElem_cons_zero]); (try simp only [Act.put]); (try simp only [List.setIfInBounds_toArray]); (try simp only [List.set_cons_succ]); (try simp only [List.set_cons_zero])
    refine wpAnyH_ready (rs := [49]) (by kernel_rfl) (by simp) ?_
    refine AllReadyH.cons rfl (fun K hK => ?_) AllReadyH.nil
    go_simp
    refine (pSame_c a a SA.out.light SA.out.light _ _ _ _ _ _ V9 X12.out HA.out).mono ?_
    rintro e V10 ⟨rfl, hb⟩
    replace BA := Lib.hid ((hb.block _ (lt_some BA.out)).trans BA.out)
    replace BF := Lib.hid ((hb.block _ (lt_some BF.out)).trans BF.out)
    replace BG := Lib.hid ((hb.block _ (lt_some BG.out)).trans BG.out)
    replace HA := Lib.hid (HA.out.keep hb)
    replace HF := Lib.hid (rd_keep HF.out hb)
    replace HG := Lib.hid (rd_keep HG.out hb)
    replace HW := Lib.hid (HW.out.trans (hb.mono HW.out.size))
    replace X7 := Lib.hid (X7.out.keep hb)
    replace Bh := Lib.hid ((hb.block _ (lt_some Bh.out)).trans Bh.out)
    replace X8 := Lib.hid (X8.out.keep hb)
    replace Bi := Lib.hid ((hb.block _ (lt_some Bi.out)).trans Bi.out)
    replace Bj := Lib.hid ((hb.block _ (lt_some Bj.out)).trans Bj.out)
    replace Bk := Lib.hid ((hb.block _ (lt_some Bk.out)).trans Bk.out)
    replace Bl := Lib.hid ((hb.block _ (lt_some Bl.out)).trans Bl.out)
    replace Bm := Lib.hid ((hb.block _ (lt_some Bm.out)).trans Bm.out)
    replace X12 := Lib.hid (X12.out.keep hb)
    clear hb hHeld
    rw [decide_eq_true (rfl : a = a)]
    go_wp2_with fail
    refine hK.out _ _ ⟨BA.out, BF.out, BG.out, Bh.out, Bj.out, Bk.out, Bl.out, Bm.out, trivial⟩ (fun hHeld => ?_)
    clear hK K
    (try simp only [List.getElem_toArray]); (try simp only [List.getElem_cons_succ]); (try simp only [List.getElem_cons_zero]); (try simp only [Act.put]); (try simp only [List.setIfInBounds_toArray]); (try simp only [List.set_cons_succ]); (try simp only [List.set_cons_zero])
    have hpl : ((pushJ a f).stack.length : Int) = (a.stack.length : Int) + 1 := by rw [push_len]; omega
    have hwl : IntKind.i64.wrap ((a.stack.length : Int) + 1) = (a.stack.length : Int) + 1 := Go.IntWalk.i64_in _ (by have := SA.out.st; omega)
    refine wpAnyH_take (i := 50) (v := ?v88) rfl (by kernel_rfl) (by kernel_rfl) (by kernel_rfl) (fun _ _ _ h => h) (Or.inl ⟨by rfl, ?hy88⟩) hHeld ?rest88
    case hy88 => (intro w hSw; (try dsimp only at hSw); (try go_split_ands); go_simp; first | done | with_reducible rfl)
    (try simp only [List.getElem_toArray]); (try simp only [List.getElem_cons_succ]); (try simp only [List.getElem_cons_zero]); (try simp only [Act.put]); (try simp only [List.setIfInBounds_toArray]); (try simp only [List.set_cons_succ]); (try simp only [List.set_cons_zero])
    refine wpAnyH_take (i := 51) (v := ?v89) rfl (by kernel_rfl) (by kernel_rfl) (by kernel_rfl) (fun _ _ _ h => h) (Or.inl ⟨by rfl, ?hy89⟩) hHeld ?rest89
    case hy89 => (intro w hSw; (try dsimp only at hSw); (try go_split_ands); go_simp; first | done | with_reducible rfl)
    (try simp only [List.getElem_toArray]); (try simp only [List.getElem_cons_succ]); (try simp only [List.getElem_cons_zero]); (try simp only [Act.put]); (try simp only [List.setIfInBounds_toArray]); (try simp only [List.set_cons_succ]); (try simp only [List.set_cons_zero])
    refine wpAnyH_take (i := 52) (v := ?v90) rfl (by kernel_rfl) (by kernel_rfl) (by kernel_rfl) (fun _ _ _ h => h) (Or.inl ⟨by rfl, ?hy90⟩) hHeld ?rest90
    case hy90 => (intro w hSw; (try dsimp only at hSw); (try go_split_ands); go_simp; first | done | with_reducible rfl)
    (try simp only [List.getElem_toArray]); (try simp only [List.getElem_cons_succ]); (try simp only [List.getElem_cons_zero]); (try simp only [Act.put]); (try simp only [List.setIfInBounds_toArray]); (try simp only [List.set_cons_succ]); (try simp only [List.set_cons_zero])
    refine wpAnyH_take (i := 53) (v := ?v91) rfl (by kernel_rfl) (by kernel_rfl) (by kernel_rfl) (fun _ _ _ h => h) (Or.inl ⟨by rfl, ?hy91⟩) hHeld ?rest91
    case hy91 => (intro w hSw; have hc := (cells19 hSw.2.2.2.1).2.2.2.2.2.2.2.2.2.2.2.2.2.1; (try dsimp only at hSw); (try go_split_ands); go_simp; first | done | with_reducible rfl)
    (try simp only [List.getElem_toArray]); (try simp only [List.getElem_cons_succ]); (try simp only [List.getElem_cons_zero]); (try simp only [Act.put]); (try simp only [List.setIfInBounds_toArray]); (try simp only [List.set_cons_succ]); (try simp only [List.set_cons_zero])
    refine wpAnyH_take (i := 54) (v := ?v92) rfl (by kernel_rfl) (by kernel_rfl) (by kernel_rfl) (fun _ _ _ h => h) (Or.inl ⟨by rfl, ?hy92⟩) hHeld ?rest92
    case hy92 => (intro w hSw; (try dsimp only at hSw); (try go_split_ands); go_simp; first | done | with_reducible rfl)
    (try simp only [List.getElem_toArray]); (try simp only [List.getElem_cons_succ]); (try simp only [List.getElem_cons_zero]); (try simp only [Act.put]); (try simp only [List.setIfInBounds_toArray]); (try simp only [List.set_cons_succ]); (try simp only [List.set_cons_zero])
    refine wpAnyH_take (i := 55) (v := ?v93) rfl (by kernel_rfl) (by kernel_rfl) (by kernel_rfl) (fun _ _ _ h => h) (Or.inl ⟨by rfl, ?hy93⟩) hHeld ?rest93
    case hy93 => (intro w hSw; (try dsimp only at hSw); (try go_split_ands); go_simp; first | done | with_reducible rfl)
    (try simp only [List.getElem_toArray]); (try simp only [List.getElem_cons_succ]); (try simp only [List.getElem_cons_zero]); (try simp only [Act.put]); (try simp only [List.setIfInBounds_toArray]); (try simp only [List.set_cons_succ]); (try simp only [List.set_cons_zero])
    refine wpAnyH_take (i := 56) (v := ?v94) rfl (by kernel_rfl) (by kernel_rfl) (by kernel_rfl) (fun _ _ _ h => h) (Or.inl ⟨by rfl, ?hy94⟩) hHeld ?rest94
    case hy94 => (intro w hSw; have hc := (cells19 hSw.1).2.2.2.2.2.2.2.2.2.2.2.2.2.1; (try dsimp only at hSw); (try go_split_ands); go_simp; first | done | with_reducible rfl)
    (try simp only [List.getElem_toArray]); (try simp only [List.getElem_cons_succ]); (try simp only [List.getElem_cons_zero]); (try simp only [Act.put]); (try simp only [List.setIfInBounds_toArray]); (try simp only [List.set_cons_succ]); (try simp only [List.set_cons_zero])
    refine wpAnyH_take (i := 57) (v := ?v95) rfl (by kernel_rfl) (by kernel_rfl) (by kernel_rfl) (fun _ _ _ h => h) (Or.inl ⟨by rfl, ?hy95⟩) hHeld ?rest95
    case hy95 => (intro w hSw; (try dsimp only at hSw); (try go_split_ands); go_simp; first | done | with_reducible rfl)
    (try simp only [List.getElem_toArray]); (try simp only [List.getElem_cons_succ]); (try simp only [List.getElem_cons_zero]); (try simp only [Act.put]); (try simp only [List.setIfInBounds_toArray]); (try simp only [List.set_cons_succ]); (try simp only [List.set_cons_zero])
    refine wpAnyH_take (i := 58) (v := ?v96) rfl (by kernel_rfl) (by kernel_rfl) (by kernel_rfl) (fun _ _ _ h => h) (Or.inl ⟨by rfl, ?hy96⟩) hHeld ?rest96
    case hy96 => (intro w hSw; (try dsimp only at hSw); (try go_split_ands); go_simp; first | done | with_reducible rfl)
    (try simp only [List.getElem_toArray]); (try simp only [List.getElem_cons_succ]); (try simp only [List.getElem_cons_zero]); (try simp only [Act.put]); (try simp only [List.setIfInBounds_toArray]); (try simp only [List.set_cons_succ]); (try simp only [List.set_cons_zero])
    refine wpAnyH_take (i := 59) (v := ?v97) rfl (by kernel_rfl) (by kernel_rfl) (by kernel_rfl) (fun _ _ _ h => h) (Or.inl ⟨by rfl, ?hy97⟩) hHeld ?rest97
    case hy97 => (intro w hSw; (try dsimp only at hSw); (try go_split_ands); go_simp; first | done | with_reducible rfl)
    (try simp only [List.getElem_toArray]); (try simp only [List.getElem_cons_succ]); (try simp only [List.getElem_cons_zero]); (try simp only [Act.put]); (try simp only [List.setIfInBounds_toArray]); (try simp only [List.set_cons_succ]); (try simp only [List.set_cons_zero])
    refine wpAnyH_take (i := 60) (v := ?v98) rfl (by kernel_rfl) (by kernel_rfl) (by kernel_rfl) (fun _ _ _ h => h) (Or.inl ⟨by rfl, ?hy98⟩) hHeld ?rest98
    case hy98 => (intro w hSw; (try dsimp only at hSw); (try go_split_ands); go_simp; first | done | with_reducible rfl)
    (try simp only [List.getElem_toArray]); (try simp only [List.getElem_cons_succ]); (try simp only [List.getElem_cons_zero]); (try simp only [Act.put]); (try simp only [List.setIfInBounds_toArray]); (try simp only [List.set_cons_succ]); (try simp only [List.set_cons_zero])
    refine wpAnyH_take (i := 61) (v := ?v99) rfl (by kernel_rfl) (by kernel_rfl) (by kernel_rfl) (fun _ _ _ h => h) (Or.inl ⟨by rfl, ?hy99⟩) hHeld ?rest99
    case hy99 => (intro w hSw; (try dsimp only at hSw); (try go_split_ands); go_simp; first | done | with_reducible rfl)
    (try simp only [List.getElem_toArray]); (try simp only [List.getElem_cons_succ]); (try simp only [List.getElem_cons_zero]); (try simp only [Act.put]); (try simp only [List.setIfInBounds_toArray]); (try simp only [List.set_cons_succ]); (try simp only [List.set_cons_zero])
    refine wpAnyH_done (by kernel_rfl) ?_ _
    go_wp2_with fail
    go_ret
    exact ⟨rfl, HW.out⟩
end Go.Proofs.YtedcffkmfopalaaDoor
