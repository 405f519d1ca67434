/-
  The program's Fail, of too many tries; Again.
-/
import Derived.Test.YtedcffkmfopalaaDoorJobK
import Derived.Test.YtedcffkmfopalaaDoorShelf
namespace Go.Proofs.YtedcffkmfopalaaDoor
open Go.RowKit Go.Shelf
attribute [local go_sem ↓] Go.wp_at_zero Go.wp_at_succ

def triesT : Str := [58, 32, 101, 114, 114, 111, 114, 32, 51, 50]
theorem digits32 : (⟨(Lib.decDigits 32).toArray⟩ : ByteArray) = ⟨#[51, 50]⟩ := by rw [show Lib.decDigits 32 = [51, 50] by first | kernel_rfl | simp [Lib.decDigits]]
theorem bs_add (a b : Str) : bs a ++ bs b = bs (a ++ b) := by apply ByteArray.ext; simp [ByteArray.data_append]
theorem tries_text (p : Str) : bs p ++ (⟨#[58, 32, 101, 114, 114, 111, 114, 32]⟩ : ByteArray) ++ ⟨#[51, 50]⟩ = bs (p ++ triesT) := by
  rw [show (⟨#[58, 32, 101, 114, 114, 111, 114, 32]⟩ : ByteArray) = bs [58, 32, 101, 114, 114, 111, 114, 32] from rfl, show (⟨#[51, 50]⟩ : ByteArray) = bs [51, 50] from rfl, bs_add, bs_add, List.append_assoc]
  rfl
def failedJ (a : JobL) (path : Str) : JobL := { a with done := true, exit := 1, e := 32, out := path ++ triesT }
def triedJ (a : JobL) : JobL := { a with tries := a.tries + 1 }
set_option maxRecDepth 100000 in
set_option maxHeartbeats 4000000 in
theorem pFail_c (a : JobL) (path : Str) (hp : path.length ≤ 1000) (vn vs vd : Value) (w : World) (ha : GivesJ a vn vs vd w) :
    Calls Tryd.prog 21 #[jval a vn vs vd, .string (bs path), .int .i64 32] w fun e w' => e = .returned (jval (failedJ a path) vn vs vd) ∧ Below w.heap.size w w' := by
  obtain ⟨an, cn, rfl, _, _⟩ := Rd.form ha.nm
  obtain ⟨ax, cs, rfl, _, _⟩ := ha.st.form
  obtain ⟨ad, cd, rfl, _, _⟩ := Rd.form ha.dr
  clear ha
  go_enter Tryd.func21, Tryd.ntmps21
  go_upto_region 1 with (fail)
  refine code_fresh2 ?_
  intro W1 hb hA hR hs
  have f15 : W1.frozen? ⟨w.heap.size, 15, none⟩ = false := Lib.frozen_of_heap hA 15
  obtain ⟨-, -, -, -, -, -, -, -, -, -, -, -, -, -, -, c, -, -, -⟩ := cells19 hA
  go_upto_region 2 with (fail)
  refine code_set1 hA ?_
  intro W2 hb2 hg2 hs2 hA2
  replace hA2 : W2.heap[w.heap.size]? = some (.cells #[.int .i64 a.kind, .int .i64 a.p, .int .i64 a.phase, .int .i64 a.fd, .int .i64 a.n, .int .i64 a.mode, .int .i64 a.tries, .int .i64 a.pos, .int .i64 a.flags, .string (bs a.path), .string (bs a.path2), .string (bs a.text), .slice an a.names.length cn, .slice ax a.stack.length cs, .slice ad a.draws.length cd, .bool true, .int .i64 a.exit, .string (bs a.out), .int .i64 a.e] 27 (0, 0)) := hA2
  have hR2 := (hg2 (w.heap.size + 1) (by omega)).trans hR
  have hB2 := hb.trans (hb2.mono (by omega))
  clear f15 c hA hR hb hb2 hg2
  have f16 : W2.frozen? ⟨w.heap.size, 16, none⟩ = false := Lib.frozen_of_heap hA2 16
  obtain ⟨-, -, -, -, -, -, -, -, -, -, -, -, -, -, -, -, c, -, -⟩ := cells19 hA2
  go_upto_region 3 with (fail)
  refine code_set1 hA2 ?_
  intro W3 hb3 hg3 hs3 hA3
  replace hA3 : W3.heap[w.heap.size]? = some (.cells #[.int .i64 a.kind, .int .i64 a.p, .int .i64 a.phase, .int .i64 a.fd, .int .i64 a.n, .int .i64 a.mode, .int .i64 a.tries, .int .i64 a.pos, .int .i64 a.flags, .string (bs a.path), .string (bs a.path2), .string (bs a.text), .slice an a.names.length cn, .slice ax a.stack.length cs, .slice ad a.draws.length cd, .bool true, .int .i64 1, .string (bs a.out), .int .i64 a.e] 27 (0, 0)) := hA3
  have hR3 := (hg3 (w.heap.size + 1) (by omega)).trans hR2
  have hB3 := hB2.trans (hb3.mono (by omega))
  clear f16 c hA2 hR2 hB2 hb3 hg3
  have f18 : W3.frozen? ⟨w.heap.size, 18, none⟩ = false := Lib.frozen_of_heap hA3 18
  obtain ⟨-, -, -, -, -, -, -, -, -, -, -, -, -, -, -, -, -, -, c⟩ := cells19 hA3
  go_upto_region 4 with (fail)
  refine code_set1 hA3 ?_
  intro W4 hb4 hg4 hs4 hA4
  replace hA4 : W4.heap[w.heap.size]? = some (.cells #[.int .i64 a.kind, .int .i64 a.p, .int .i64 a.phase, .int .i64 a.fd, .int .i64 a.n, .int .i64 a.mode, .int .i64 a.tries, .int .i64 a.pos, .int .i64 a.flags, .string (bs a.path), .string (bs a.path2), .string (bs a.text), .slice an a.names.length cn, .slice ax a.stack.length cs, .slice ad a.draws.length cd, .bool true, .int .i64 1, .string (bs a.out), .int .i64 32] 27 (0, 0)) := hA4
  have hR4 := (hg4 (w.heap.size + 1) (by omega)).trans hR3
  have hB4 := hB3.trans (hb4.mono (by omega))
  clear f18 c hA3 hR3 hB3 hb4 hg4
  have f17 : W4.frozen? ⟨w.heap.size, 17, none⟩ = false := Lib.frozen_of_heap hA4 17
  obtain ⟨-, -, -, -, -, -, -, -, -, -, -, -, -, -, -, -, -, c, -⟩ := cells19 hA4
  have l1 : ¬ 9223372036854775807 < (bs path).size + 8 := by rw [bs_size]; omega
  have l2 : ¬ 9223372036854775807 < (bs path ++ ⟨#[58, 32, 101, 114, 114, 111, 114, 32]⟩ : ByteArray).size + 2 := by rw [ByteArray.size_append, bs_size]; show ¬ _ < path.length + 8 + 2; omega
  go_wp2_with fail
  refine (Tryd.strconv_Itoa_small 32 (by decide) _).mono ?_
  rintro e W4 ⟨rfl, rfl⟩
  rw [digits32]
  go_upto_region 5 with (fail)
  refine code_set1 hA4 ?_
  intro W5 hb5 hg5 hs5 hA5
  replace hA5 : W5.heap[w.heap.size]? = some (.cells #[.int .i64 a.kind, .int .i64 a.p, .int .i64 a.phase, .int .i64 a.fd, .int .i64 a.n, .int .i64 a.mode, .int .i64 a.tries, .int .i64 a.pos, .int .i64 a.flags, .string (bs a.path), .string (bs a.path2), .string (bs a.text), .slice an a.names.length cn, .slice ax a.stack.length cs, .slice ad a.draws.length cd, .bool true, .int .i64 1, .string (bs path ++ ⟨#[58, 32, 101, 114, 114, 111, 114, 32]⟩ ++ ⟨#[51, 50]⟩), .int .i64 32] 27 (0, 0)) := hA5
  rw [tries_text] at hA5
  have hR5 := (hg5 (w.heap.size + 1) (by omega)).trans hR4
  have hB5 := hB4.trans (hb5.mono (by omega))
  clear f17 c hA4 hR4 hB4 hb5 hg5 l1 l2
  go_wp2_with (first | (refine wpList_load_row rfl 27 _ rfl _ rfl 27 _ (0, 0) _ hA5 Tryd.underlying27 rfl (by kernel_rfl) ?_) | (refine wpList_store_row rfl 27 _ _ rfl _ rfl rfl hR5 rfl (by kernel_rfl) rfl ?_; intro W6 hb6 hg6 hs6 hR6))
  (try simp only [Exit.inBlock, Exit.then])
  refine bodyPost_ret (results_cell_row (p := 6) (ty := 27) rfl _ W6 (w.heap.size + 1) _ _ _ _ rfl hR6 Tryd.underlying27 rfl (by kernel_rfl)) rfl ?_
  exact ⟨rfl, hB5.trans (hb6.mono (by omega))⟩
/-- What a try comes to. -/
def AgainIs (a : JobL) (path : Str) (vn vs vd : Value) (e : Ending) (w w' : World) : Prop := e = .returned (.tuple #[jval (if a.tries < 3 then triedJ a else failedJ a path) vn vs vd, .bool (decide (a.tries < 3))]) ∧ Below w.heap.size w w'
set_option maxRecDepth 100000 in
set_option maxHeartbeats 4000000 in
theorem pAgain_c (a : JobL) (ht : a.tries ≤ 1000) (ht0 : 0 ≤ a.tries) (path : Str) (hp : path.length ≤ 1000) (vn vs vd : Value) (w : World) (ha : GivesJ a vn vs vd w) :
    Calls Tryd.prog 20 #[jval a vn vs vd, .string (bs path)] w fun e w' => AgainIs a path vn vs vd e w w' := by
  obtain ⟨an, cn, rfl, _, _⟩ := Rd.form ha.nm
  obtain ⟨ax, cs, rfl, _, _⟩ := ha.st.form
  obtain ⟨ad, cd, rfl, _, _⟩ := Rd.form ha.dr
  have HA := Lib.hid ha
  clear ha
  go_enter Tryd.func20, Tryd.ntmps20
  go_upto_region 1 with (fail)
  refine code_fresh2 ?_
  intro W1 hb hA hR hs
  obtain ⟨-, -, -, -, -, -, c6, -, -, -, -, -, -, -, -, -, -, -, -⟩ := cells19 hA
  by_cases h : a.tries < 3
  · have e1 : decide (3 ≤ a.tries) = false := decide_eq_false (by omega)
    have e2 : IntKind.i64.wrap (a.tries + 1) = a.tries + 1 := Go.IntWalk.i64_in _ (by omega)
    have HE := Lib.hid (show (if a.tries < 3 then triedJ a else failedJ a path) = triedJ a from if_pos h)
    have HD := Lib.hid (decide_eq_true h)
    clear h
    have f6 : W1.frozen? ⟨w.heap.size, 6, none⟩ = false := Lib.frozen_of_heap hA 6
    go_upto_region 4 with (fail)
    refine code_set1 hA ?_
    intro W2 hb2 hg2 hs2 hA2
    replace hA2 : W2.heap[w.heap.size]? = some (.cells #[.int .i64 a.kind, .int .i64 a.p, .int .i64 a.phase, .int .i64 a.fd, .int .i64 a.n, .int .i64 a.mode, .int .i64 (a.tries + 1), .int .i64 a.pos, .int .i64 a.flags, .string (bs a.path), .string (bs a.path2), .string (bs a.text), .slice an a.names.length cn, .slice ax a.stack.length cs, .slice ad a.draws.length cd, .bool a.done, .int .i64 a.exit, .string (bs a.out), .int .i64 a.e] 27 (0, 0)) := hA2
    have hR2 := (hg2 (w.heap.size + 1) (by omega)).trans hR
    have hB2 := hb.trans (hb2.mono (by omega))
    clear f6 c6 hA hR hb hb2 hg2 e1 e2
    go_wp2_with (first | (refine wpList_load_row rfl 27 _ rfl _ rfl 27 _ (0, 0) _ hA2 Tryd.underlying27 rfl (by kernel_rfl) ?_) | (refine wpList_store_row rfl 27 _ _ rfl _ rfl rfl hR2 rfl (by kernel_rfl) rfl ?_; intro W3 hb3 hg3 hs3 hR3))
    (try simp only [Exit.inBlock, Exit.then])
    refine bodyPost_ret (results_ct (p := 4) (u := 5) (ty := 27) rfl _ W3 (w.heap.size + 1) _ _ _ _ rfl hR3 Tryd.underlying27 rfl (by kernel_rfl)) rfl ?_
    unfold AgainIs
    rw [HE.out, HD.out]
    exact ⟨rfl, hB2.trans (hb3.mono (by omega))⟩
  · have e1 : decide (3 ≤ a.tries) = true := decide_eq_true (by omega)
    have HE := Lib.hid (show (if a.tries < 3 then triedJ a else failedJ a path) = failedJ a path from if_neg h)
    have HD := Lib.hid (decide_eq_false h)
    clear h
    have hR1 := hR
    go_upto_region 2 with (fail)
    clear c6 e1
    go_wp2_with (first | (refine wpList_load_row rfl 27 _ rfl _ rfl 27 _ (0, 0) _ hA Tryd.underlying27 rfl (by kernel_rfl) ?_))
    refine (pFail_c a path hp _ _ _ W1 (HA.out.keep hb)).mono ?_
    rintro e W2 ⟨rfl, hb2⟩
    have hR2 := (hb2.block _ (by omega)).trans hR
    have hB2 := ret_tr hb hb2
    have sz := hb2.size
    clear hb hb2 hA hR hR1
    go_wp2_with (first | (refine wpList_store_row rfl 27 _ _ rfl _ rfl rfl hR2 rfl (by kernel_rfl) rfl ?_; intro W3 hb3 hg3 hs3 hR3))
    (try simp only [Exit.inBlock, Exit.then])
    refine bodyPost_ret (results_ct (p := 4) (u := 5) (ty := 27) rfl _ W3 (w.heap.size + 1) _ _ _ _ rfl hR3 Tryd.underlying27 rfl (by kernel_rfl)) rfl ?_
    unfold AgainIs
    rw [HE.out, HD.out]
    exact ⟨rfl, hB2.trans (hb3.mono (by omega))⟩
end Go.Proofs.YtedcffkmfopalaaDoor
