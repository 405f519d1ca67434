/-
  The walk of JobTries.
-/
import Derived.Test.YtedcffkmfopalaaDoorJobN
import Derived.Test.YtedcffkmfopalaaDoorJobF
import Derived.Test.YtedcffkmfopalaaDoorShown15
namespace Go.Proofs.YtedcffkmfopalaaDoor
open Go.RowKit Go.Shelf
attribute [local go_sem ↓] Go.wp_at_zero Go.wp_at_succ

def withT (a : JobL) (k : Int) : JobL := { a with tries := k }
theorem withT_gives {a : JobL} {k : Int} {vn vs vd : Value} {W : World} (h : GivesJ a vn vs vd W) : GivesJ (withT a k) vn vs vd W := ⟨h.nm, h.st, h.dr⟩
set_option maxRecDepth 100000 in
set_option maxHeartbeats 4000000 in
theorem jobTries_w (a : JobL) (path : Str) (hp63 : path.length ≤ 9223372036854775807) (vn vs vd : Value) (w : World) (ha : GivesJ a vn vs vd w) :
    Calls Tryd.prog 6 #[jval a vn vs vd, .string (bs path)] w fun e w' => e = .returned (.bool true) ∧ Below w.heap.size w w' := by
  obtain ⟨an, acn, rfl, _, _⟩ := Rd.form ha.nm
  obtain ⟨ax, acs, rfl, _, _⟩ := ha.st.form
  obtain ⟨ad, acd, rfl, _, _⟩ := Rd.form ha.dr
  have HA := Lib.hid ha
  have HA0 := Lib.hid ha
  clear ha
  go_enter Tryd.func6, Tryd.ntmps6
  go_upto_region 1 with (fail)
  refine code_fresh1 ?_
  intro W1 hb hA hs
  have BA := Lib.hid (hA)
  replace HA := Lib.hid (HA.out.keep hb)
  have HW := Lib.hid hb
  clear hb hA hs
  have hz0 := BA.out
  go_wp2_with (first | (refine wpList_load_row rfl 27 _ rfl _ rfl 27 _ (0, 0) _ hz0 Tryd.underlying27 rfl (by kernel_rfl) ?_) | (refine wpList_load_rowG rfl 27 _ rfl _ rfl 27 _ (0, 0) _ hz0 Tryd.underlying27 rfl (by kernel_rfl) ?_))
  clear hz0
  refine (plain_c a _ _ _ W1 HA.out).mono ?_
  rintro e V1 ⟨rfl, hb⟩
  replace BA := Lib.hid ((hb.block _ (lt_some BA.out)).trans BA.out)
  replace HA := Lib.hid (HA.out.keep hb)
  replace HW := Lib.hid (HW.out.trans (hb.mono HW.out.size))
  clear hb
  cases hq : plainJ a with
  | false =>
    clear hq
    go_wp2_with fail
    refine (shown_c V1).mono ?_
    rintro e Z ⟨rfl, hb⟩
    go_wp2_with fail
    go_ret
    exact ⟨rfl, ret_tr HW.out hb⟩
  | true =>
    have SA := Lib.hid (small_J hq)
    clear hq
    by_cases hq : path.length ≤ 200
    case neg =>
      have p1 : decide ((200 : Int) < (path.length : Int)) = true := decide_eq_true (by omega)
      have p2 : decide (200 < path.length) = true := decide_eq_true (by omega)
      clear hq
      obtain ⟨-, -, -, -, -, -, c6, -, -, -, -, -, -, -, -, -, -, -, -⟩ := cells19 BA.out
      go_wp2_with fail
      refine (shown_c V1).mono ?_
      rintro e Z ⟨rfl, hb⟩
      go_wp2_with fail
      go_ret
      exact ⟨rfl, ret_tr HW.out hb⟩
    have p1 : decide ((200 : Int) < (path.length : Int)) = false := decide_eq_false (by omega)
    have p2 : decide (200 < path.length) = false := decide_eq_false (by omega)
    have HP := Lib.hid hq
    clear hq
    by_cases hq : 0 ≤ a.tries
    case neg =>
      have p3 : decide (a.tries < 0) = true := decide_eq_true (by omega)
      clear hq
      obtain ⟨-, -, -, -, -, -, c6, -, -, -, -, -, -, -, -, -, -, -, -⟩ := cells19 BA.out
      go_wp2_with fail
      refine (shown_c V1).mono ?_
      rintro e Z ⟨rfl, hb⟩
      go_wp2_with fail
      go_ret
      exact ⟨rfl, ret_tr HW.out hb⟩
    have p3 : decide (a.tries < 0) = false := decide_eq_false (by omega)
    have HT0 := Lib.hid hq
    clear hq
    by_cases hq : a.tries ≤ 3
    case neg =>
      have p4 : decide (3 < a.tries) = true := decide_eq_true (by omega)
      clear hq
      obtain ⟨-, -, -, -, -, -, c6, -, -, -, -, -, -, -, -, -, -, -, -⟩ := cells19 BA.out
      go_wp2_with fail
      refine (shown_c V1).mono ?_
      rintro e Z ⟨rfl, hb⟩
      go_wp2_with fail
      go_ret
      exact ⟨rfl, ret_tr HW.out hb⟩
    have p4 : decide (3 < a.tries) = false := decide_eq_false (by omega)
    have HT3 := Lib.hid hq
    clear hq
    obtain ⟨-, -, -, -, -, -, c6, -, -, -, -, -, -, -, -, -, -, -, -⟩ := cells19 BA.out
    go_wp2_with fail
    refine (shown_c V1).mono ?_
    rintro e V2 ⟨rfl, hb⟩
    replace BA := Lib.hid ((hb.block _ (lt_some BA.out)).trans BA.out)
    replace HA := Lib.hid (HA.out.keep hb)
    replace HW := Lib.hid (HW.out.trans (hb.mono HW.out.size))
    clear hb
    clear c6 p1 p2 p3 p4
    obtain ⟨-, -, -, -, -, -, c6, -, -, -, -, -, -, -, -, -, -, -, -⟩ := cells19 BA.out
    have hz0 := BA.out
    go_upto_region 4 with (first | (refine wpList_load_row rfl 27 _ rfl _ rfl 27 _ (0, 0) _ hz0 Tryd.underlying27 rfl (by kernel_rfl) ?_) | (refine wpList_load_rowG rfl 27 _ rfl _ rfl 27 _ (0, 0) _ hz0 Tryd.underlying27 rfl (by kernel_rfl) ?_) | (refine wpList_fresh1 ?_; intro V90 hb hA90 hs90) | (refine wpList_store_row rfl 27 _ _ rfl _ rfl rfl hA90 rfl (by kernel_rfl) rfl ?_; intro W91 hb91 hg91 hs91 hB91))
    clear hz0
    (try simp only [List.getElem_toArray]); (try simp only [List.getElem_cons_succ]); (try simp only [List.getElem_cons_zero]); (try simp only [Act.put]); (try simp only [List.setIfInBounds_toArray]); (try simp only [List.set_cons_succ]); (try simp only [List.set_cons_zero])
    have hbv : Below V2.heap.size V2 W91 := hb.trans (hb91.mono (Nat.le_refl _))
    have hsz : W91.heap.size = V2.heap.size + 1 := by rw [hs91, hs90]
    clear hb hb91 hA90 hs90 hg91 hs91 c6
    obtain ⟨bk, hbk⟩ : ∃ bk, bk = V2.heap.size := ⟨_, rfl⟩
    have HBK := Lib.hid (show w.heap.size < bk by rw [hbk]; exact lt_some BA.out)
    rw [← hbk] at hB91 ⊢
    have HLT := Lib.hid (show bk < W91.heap.size by omega)
    replace hb := hbv
    clear hbv hbk
    replace BA := Lib.hid ((hb.block _ (lt_some BA.out)).trans BA.out)
    replace HA := Lib.hid (HA.out.keep hb)
    replace HW := Lib.hid (HW.out.trans (hb.mono HW.out.size))
    clear hb hsz
    replace hB91 : W91.heap[bk]? = some (.cells #[.int .i64 a.kind, .int .i64 a.p, .int .i64 a.phase, .int .i64 a.fd, .int .i64 a.n, .int .i64 a.mode, .int .i64 a.tries, .int .i64 a.pos, .int .i64 a.flags, .string (bs a.path), .string (bs a.path2), .string (bs a.text), .slice an a.names.length acn, .slice ax a.stack.length acs, .slice ad a.draws.length acd, .bool a.done, .int .i64 a.exit, .string (bs a.out), .int .i64 a.e] 27 (0, 0)) := hB91
    obtain ⟨-, -, -, -, -, -, c6, -, -, -, -, -, -, -, -, -, -, -, -⟩ := cells19 BA.out
    go_wp2_with fail
    clear c6
    go_loopw [6] (fun i wr => ∃ k : Int, i = .int .i64 k ∧ 0 ≤ k ∧ k ≤ 3 ∧ Hid (wr.heap[bk]? = some (.cells #[.int .i64 a.kind, .int .i64 a.p, .int .i64 a.phase, .int .i64 a.fd, .int .i64 a.n, .int .i64 a.mode, .int .i64 k, .int .i64 a.pos, .int .i64 a.flags, .string (bs a.path), .string (bs a.path2), .string (bs a.text), .slice an a.names.length acn, .slice ax a.stack.length acs, .slice ad a.draws.length acd, .bool a.done, .int .i64 a.exit, .string (bs a.out), .int .i64 a.e] 27 (0, 0))) ∧ Hid (Below w.heap.size w wr) ∧ Hid (wr.heap[w.heap.size]? = some (.cells #[.int .i64 a.kind, .int .i64 a.p, .int .i64 a.phase, .int .i64 a.fd, .int .i64 a.n, .int .i64 a.mode, .int .i64 a.tries, .int .i64 a.pos, .int .i64 a.flags, .string (bs a.path), .string (bs a.path2), .string (bs a.text), .slice an a.names.length acn, .slice ax a.stack.length acs, .slice ad a.draws.length acd, .bool a.done, .int .i64 a.exit, .string (bs a.out), .int .i64 a.e] 27 (0, 0)))) (fun i _ => (3 - RowKit.intOf i).toNat)
    case atStart => exact ⟨a.tries, rfl, HT0.out, HT3.out, Lib.hid hB91, HW, BA⟩
    case round =>
      clear hB91 HA HW BA HLT
      obtain ⟨k, rfl, hk0, hk3, BK, HW, BA⟩ := hrel
      have HA := Lib.hid (HA0.out.keep HW.out)
      by_cases hlt : k < 3
      · have iL : decide (k < 3) = true := decide_eq_true hlt
        have wk : IntKind.i64.wrap (k + 1) = k + 1 := Go.IntWalk.i64_in _ (by omega)
        have hz0 := BK.out
        go_wp2_with (first | (refine wpList_load_row rfl 27 _ rfl _ rfl 27 _ (0, 0) _ hz0 Tryd.underlying27 rfl (by kernel_rfl) ?_) | (refine wpList_load_rowG rfl 27 _ rfl _ rfl 27 _ (0, 0) _ hz0 Tryd.underlying27 rfl (by kernel_rfl) ?_))
        clear hz0
        refine (pAgain_c (withT a k) (by show k ≤ 1000; omega) hk0 path (by have := HP.out; omega) _ _ _ wr (withT_gives HA.out)).mono ?_
        rintro e V201 ⟨rfl, hb⟩
        replace BK := Lib.hid ((hb.block _ (lt_some BK.out)).trans BK.out)
        replace HW := Lib.hid (HW.out.trans (hb.mono HW.out.size))
        replace BA := Lib.hid ((hb.block _ (lt_some BA.out)).trans BA.out)
        replace HA := Lib.hid (HA.out.keep hb)
        clear hb
        rw [show (if (withT a k).tries < 3 then triedJ (withT a k) else failedJ (withT a k) path) = withT a (k + 1) from if_pos hlt, show decide ((withT a k).tries < 3) = true from decide_eq_true hlt]
        go_upto_region 8 with (first | (refine wpList_fresh1 ?_; intro V92 hb hA92 hs92) | (refine wpList_store_row rfl 27 _ _ rfl _ rfl rfl hA92 rfl (by kernel_rfl) rfl ?_; intro W93 hb93 hg93 hs93 hB93))
        (try simp only [List.getElem_toArray]); (try simp only [List.getElem_cons_succ]); (try simp only [List.getElem_cons_zero]); (try simp only [Act.put]); (try simp only [List.setIfInBounds_toArray]); (try simp only [List.set_cons_succ]); (try simp only [List.set_cons_zero])
        have hbv : Below V201.heap.size V201 W93 := hb.trans (hb93.mono (Nat.le_refl _))
        obtain ⟨bn, hbn⟩ : ∃ bn, bn = V201.heap.size := ⟨_, rfl⟩
        have HBN := Lib.hid (show bk < bn by rw [hbn]; exact lt_some BK.out)
        rw [← hbn] at hB93 ⊢
        replace hB93 : W93.heap[bn]? = some (.cells #[.int .i64 a.kind, .int .i64 a.p, .int .i64 a.phase, .int .i64 a.fd, .int .i64 a.n, .int .i64 a.mode, .int .i64 (k + 1), .int .i64 a.pos, .int .i64 a.flags, .string (bs a.path), .string (bs a.path2), .string (bs a.text), .slice an a.names.length acn, .slice ax a.stack.length acs, .slice ad a.draws.length acd, .bool a.done, .int .i64 a.exit, .string (bs a.out), .int .i64 a.e] 27 (0, 0)) := hB93
        clear hb hb93 hA92 hs92 hg93 hs93 hbn
        have hb := hbv
        clear hbv
        replace BK := Lib.hid ((hb.block _ (lt_some BK.out)).trans BK.out)
        replace HW := Lib.hid (HW.out.trans (hb.mono HW.out.size))
        replace BA := Lib.hid ((hb.block _ (lt_some BA.out)).trans BA.out)
        replace HA := Lib.hid (HA.out.keep hb)
        clear hb
        have BN := Lib.hid hB93
        clear hB93
        obtain ⟨-, -, -, -, -, -, d6, -, -, -, -, -, -, -, -, d15, -, -, -⟩ := cells19 BN.out
        obtain ⟨-, -, -, -, -, -, -, -, -, -, -, -, -, -, -, c15, -, -, -⟩ := cells19 BA.out
        go_upto_region 10 with (fail)
        clear d6 d15 c15
        have hz0 := BN.out
        have hz1 := BK.out
        go_wp2_with (first | (refine wpList_load_row rfl 27 _ rfl _ rfl 27 _ (0, 0) _ hz0 Tryd.underlying27 rfl (by kernel_rfl) ?_) | (refine wpList_store_row rfl 27 _ _ rfl _ rfl rfl hz1 rfl (by kernel_rfl) rfl ?_; intro W94 hb94 hg94 hs94 hB94))
        clear hz0 hz1
        have HW2 := Lib.hid (HW.out.trans (hb94.mono (Nat.le_of_lt HBK.out)))
        skip
        go_roundw
        case rel => exact ⟨k + 1, rfl, by omega, by omega, Lib.hid hB94, Lib.hid (HW.out.trans (hb94.mono (Nat.le_of_lt HBK.out))), Lib.hid ((hg94 _ (by have := HBK.out; omega)).trans BA.out)⟩
        case measure => simp [RowKit.intOf]; omega
      · have iL : decide (k < 3) = false := decide_eq_false hlt
        obtain rfl : k = 3 := by omega
        have hz0 := BK.out
        go_wp2_with (first | (refine wpList_load_row rfl 27 _ rfl _ rfl 27 _ (0, 0) _ hz0 Tryd.underlying27 rfl (by kernel_rfl) ?_) | (refine wpList_load_rowG rfl 27 _ rfl _ rfl 27 _ (0, 0) _ hz0 Tryd.underlying27 rfl (by kernel_rfl) ?_))
        clear hz0
        refine (pAgain_c (withT a 3) (show (3 : Int) ≤ 1000 by decide) (show (0 : Int) ≤ 3 by decide) path (by have := HP.out; omega) _ _ _ wr (withT_gives HA.out)).mono ?_
        rintro e V301 ⟨rfl, hb⟩
        replace BK := Lib.hid ((hb.block _ (lt_some BK.out)).trans BK.out)
        replace HW := Lib.hid (HW.out.trans (hb.mono HW.out.size))
        replace BA := Lib.hid ((hb.block _ (lt_some BA.out)).trans BA.out)
        replace HA := Lib.hid (HA.out.keep hb)
        clear hb
        rw [show (if (withT a 3).tries < 3 then triedJ (withT a 3) else failedJ (withT a 3) path) = failedJ (withT a 3) path from if_neg (show ¬ (3 : Int) < 3 by decide), show decide ((withT a 3).tries < 3) = false from decide_eq_false (show ¬ (3 : Int) < 3 by decide)]
        go_upto_region 12 with (first | (refine wpList_fresh1 ?_; intro V95 hb hA95 hs95) | (refine wpList_store_row rfl 27 _ _ rfl _ rfl rfl hA95 rfl (by kernel_rfl) rfl ?_; intro W96 hb96 hg96 hs96 hB96))
        (try simp only [List.getElem_toArray]); (try simp only [List.getElem_cons_succ]); (try simp only [List.getElem_cons_zero]); (try simp only [Act.put]); (try simp only [List.setIfInBounds_toArray]); (try simp only [List.set_cons_succ]); (try simp only [List.set_cons_zero])
        have hbv : Below V301.heap.size V301 W96 := hb.trans (hb96.mono (Nat.le_refl _))
        have HW9 := Lib.hid (HW.out.trans (hbv.mono HW.out.size))
        obtain ⟨-, -, -, -, -, -, -, -, -, -, -, -, -, -, -, d15, d16, d17, d18⟩ := cells19 hB96
        have ht : bs path ++ (⟨#[58, 32, 101, 114, 114, 111, 114, 32, 51, 50]⟩ : ByteArray) = bs (path ++ triesT) := bs_add path triesT
        have hl : ¬ 9223372036854775807 < (bs path).size + 10 := by rw [bs_size]; have := HP.out; omega
        have hq : ((failedJ (withT a 3) path).out == path ++ triesT) = true := beq_iff_eq.2 rfl
        go_wp2_with fail
        go_ret
        exact ⟨rfl, HW9.out⟩
end Go.Proofs.YtedcffkmfopalaaDoor
