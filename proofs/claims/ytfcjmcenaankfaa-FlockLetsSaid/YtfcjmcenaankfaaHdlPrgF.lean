/-
  The program's Open, Set, Dup, Close.
-/
import Derived.Test.YtfcjmcenaankfaaHdlPrgD
namespace Go.Proofs.Ytfcjmcenaankfaa
open Go.RowKit Go.Shelf
attribute [local go_sem ↓] Go.wp_at_zero Go.wp_at_succ

theorem turn_one {X : Nat → Prop} {W W' : World} (p fd : Nat) (v : Int) {t : TypeId} {fr : Nat × Nat} (hX : Old X W) (hn : W'.heap[W.heap.size]? = some (.cells #[.int .i64 p, .int .i64 fd, .int .i64 v] t fr)) : RdX 3 (.slice (some ⟨W.heap.size, 0, none⟩) [TurnL.mk p fd v].length 1) [TurnL.mk p fd v].length (cellsU [⟨p, fd, v⟩]) X W' := by
  refine ⟨rd_block (xs := cellsU [⟨p, fd, v⟩]) hn rfl (show 1 ≤ maxLen by decide) (Array.getElem?_eq_some_iff.1 hn).1, fun g hg => ?_⟩
  intro a n c e _
  injection e with e
  injection e with e
  subst e
  have := hX g hg
  show W.heap.size ≠ g
  omega
theorem turn_none (X : Nat → Prop) (W : World) : RdX 3 (.slice none ([] : List TurnL).length 0) ([] : List TurnL).length (cellsU []) X W := RdX.none0 _ _ _
theorem put_old {ds : List DescL} {i : Nat} (h : i < ds.length) (x : DescL) : putD1 ds i x = ds.set i x := by unfold putD1; rw [if_neg (by omega)]
theorem eight_T {t : TabL} (hr : RightT t) : ∀ r ∈ t.fs, r.length = 8 := fun r h => (hr.1 r h).1
theorem least_T {t : TabL} (hr : RightT t) {k : Nat} (hk : k < t.fs.length) : ∀ x ∈ t.fs[k], -1 ≤ x := fun x hx => ((hr.1 _ (List.getElem_mem hk)).2 x hx).1
theorem refs_T {t : TabL} (hr : RightT t) : ∀ d ∈ t.ds, 0 ≤ d.refs := fun d hd => by
  obtain ⟨i, hi⟩ := List.mem_iff_getElem?.1 hd
  have := (hr.2 i d hi).1
  omega
theorem firstI_yes {r : List Int} {f : Nat} (hf : f = firstR r) (h : f < r.length) : firstI r = (f : Int) := by unfold firstI; rw [← hf, if_pos h]
theorem firstI_no {r : List Int} (h : ¬ firstR r < r.length) : firstI r = -1 := by unfold firstI; rw [if_neg h]
theorem set_no1 {t : TabL} {i : Int} {x : DescL} (h : inD t i = false) : setT t i x = t := by
  unfold inD at h
  rw [Bool.and_eq_false_iff, decide_eq_false_iff_not, decide_eq_false_iff_not] at h
  unfold setT
  refine if_pos ?_
  rcases h with h | h
  · exact .inl (by omega)
  · exact .inr (.inl (by omega))
theorem inD_T {t : TabL} {i : Int} (h : inD t i = true) : ∃ k : Nat, i = k ∧ k < t.ds.length := by
  unfold inD at h
  simp only [Bool.and_eq_true, decide_eq_true_iff] at h
  obtain ⟨k, rfl⟩ := Int.eq_ofNat_of_zero_le h.1
  exact ⟨k, rfl, by omega⟩
set_option maxRecDepth 100000 in
set_option maxHeartbeats 4000000 in
theorem pset_c (X : Nat → Prop) (t : TabL) (i : Int) (x : DescL) (ad af : Option Addr) (cap capf : Nat) (w : World) (hX : Old X w) (hT : TabX t (.slice ad t.ds.length cap) (.slice af t.fs.length capf) X w) (hz : SizeT t) (hr : RightT t) :
    Calls Try.prog 25 #[tabV ad t.ds.length cap af t.fs.length capf, .int .i64 i, dvalD x] w fun e w' => TabIs X (setT t i x) e w w' := by
  have S0 := Lib.hid (Sf.start (G := [TabX t (.slice ad t.ds.length cap) (.slice af t.fs.length capf)]) hX (th1 (TabX.firm _ _ _) hT))
  have HZ := Lib.hid hz
  have HRT := Lib.hid hr
  have H8 := Lib.hid (eight_T hr)
  have HRET : Hid (∀ (W : World) (cs : Array Value) (fr), W.heap[w.heap.size + 2]? = some (.cells cs 25 fr) → cs.size = 2 → ∀ tmps : Array Value, tmps.getD 6 undef = .pointer (some ⟨w.heap.size + 2, 0, none⟩) → (results Try.f25 tmps).run Try.prog W = .ok (.agg cs) W) := Lib.hid fun W cs fr h hs tmps ht =>
  results_cell_row (p := 6)  (ty := 25) rfl tmps W (w.heap.size + 2) _ cs fr _ ht h Try.underlying25 rfl (by rw [hs]; kernel_rfl)
  clear hX hT hz hr
  go_enter Try.func25, Try.ntmps25
  go_upto_region 1 with (fail)
  refine code_fresh3 ?_
  intro W1 hb hA0 hA1 hA2 hs
  have S1 := Lib.hid (S0.out.new3 hb hA0 hA1 hA2)
  clear hb hA0 hA1 hA2 hs
  have h_d := (S1.out.at 0 rfl)
  go_wp2_with (first | (refine wpList_load_row rfl 25 _ rfl _ rfl 25 _ (0, 0) _ h_d Try.underlying25 rfl (by kernel_rfl) ?_))
  refine (phasD_c t _ _ _ _ _ (S1.out.g 0 rfl) i).mono ?_
  rintro e W2 ⟨rfl, hb⟩
  clear h_d
  have S2 := Lib.hid (S1.out.call hb)
  clear hb
  cases hin : inD t i with
  | false =>
    have HR : Hid (setT t i x = t) := Lib.hid (set_no1 hin)
    clear hin
    go_upto_region 2 with (fail)
    have h_r := (S2.out.at 2 rfl)
    have h_d := (S2.out.at 0 rfl)
    go_wp2_with (first | (refine wpList_load_row rfl 25 _ rfl _ rfl 25 _ (0, 0) _ h_d Try.underlying25 rfl (by kernel_rfl) ?_) | (refine wpList_store_row rfl 25 _ _ rfl _ rfl rfl h_r rfl (by kernel_rfl) rfl ?_; intro W3 hb hg hs hn; have S3 := Lib.hid (S2.out.set 2 rfl hb hg hs hn); clear hb hg hs hn))
    refine bodyPost_ret (HRET.out _ _ _ (S3.out.at 2 rfl) rfl _ rfl) rfl ?_
    rw [HR.out]
    exact ⟨_, _, rfl, S3.out.gX 0 rfl, S3.out.bel⟩
  | true =>
    obtain ⟨a, rfl, ha⟩ := inD_T hin
    clear hin
    have a0 : (0 : Int) ≤ (a : Int) := by omega
    have a1 : (a : Int) < (t.ds.length : Int) := by omega
    obtain ⟨b, off, ead, -, -, -, -, c4, -⟩ := TabX.desc (S2.out.g 0 rfl) a ha
    subst ead
    have hy0 := refs_T HRT.out _ (List.getElem_mem ha)
    obtain ⟨y, hy⟩ : ∃ y, y = t.ds[a] := ⟨_, rfl⟩
    rw [← hy] at c4 hy0
    have HS0 : Hid (setT t (a : Int) x = if y.refs < 1 then t else ⟨t.ds.set a { x with refs := y.refs }, t.fs⟩) := Lib.hid (by unfold setT; rw [desc_at ha, ← hy]; by_cases h : y.refs < 1; rw [if_pos (.inr (.inr h)), if_pos h]; rw [if_neg (by omega), if_neg h, Int.toNat_natCast])
    have HY := Lib.hid hy
    clear hy
    obtain ⟨d0, d1⟩ := cells2 (S2.out.at 0 rfl)
    by_cases h3 : y.refs = 0
    · have i3 : decide (y.refs = 0) = true := decide_eq_true h3
      have i4 : (y.refs == 0) = true := by rw [h3]; rfl
      have HR := Lib.hid (HS0.out.trans (if_pos (by omega)))
      clear h3
      go_upto_region 2 with (fail)
      clear d0 d1
      have h_r := (S2.out.at 2 rfl)
      have h_d := (S2.out.at 0 rfl)
      go_wp2_with (first | (refine wpList_load_row rfl 25 _ rfl _ rfl 25 _ (0, 0) _ h_d Try.underlying25 rfl (by kernel_rfl) ?_) | (refine wpList_store_row rfl 25 _ _ rfl _ rfl rfl h_r rfl (by kernel_rfl) rfl ?_; intro W3 hb hg hs hn; have S3 := Lib.hid (S2.out.set 2 rfl hb hg hs hn); clear hb hg hs hn))
      refine bodyPost_ret (HRET.out _ _ _ (S3.out.at 2 rfl) rfl _ rfl) rfl ?_
      rw [HR.out]
      exact ⟨_, _, rfl, S3.out.gX 0 rfl, S3.out.bel⟩
    · have i3 : decide (y.refs = 0) = false := decide_eq_false h3
      have i4 : (y.refs == 0) = false := by rw [beq_eq_false_iff_ne]; exact h3
      have HR := Lib.hid (HS0.out.trans (if_neg (by omega)))
      clear h3 hy0
      go_upto_region 3 with (fail)
      obtain ⟨-, -, -, -, x4, -⟩ := cells6 (S2.out.at 1 rfl)
      have fx := fun j => Lib.frozen_of_heap (S2.out.at 1 rfl) j
      go_upto_region 4 with (fail)
      clear d0 d1 c4 x4 fx
      refine code_set1 (S2.out.at 1 rfl) ?_
      intro W3 hb hg hs hn
      have S3 := Lib.hid (S2.out.set 1 rfl hb hg hs hn)
      clear hb hg hs hn
      have h_x : W3.heap[w.heap.size + 1]? = some (.cells #[.int .i64 x.ino, .int .i64 x.pos, .bool x.rd, .bool x.wr, .int .i64 y.refs, .int .i64 x.lock] 44 (0, 0)) := S3.out.at 1 rfl
      have h_d := (S3.out.at 0 rfl)
      go_wp2_with (first | (refine wpList_load_row rfl 25 _ rfl _ rfl 25 _ (0, 0) _ h_d Try.underlying25 rfl (by kernel_rfl) ?_) | (refine wpList_load_row rfl 44 _ rfl _ rfl 44 _ (0, 0) _ h_x Try.underlying44 rfl (by kernel_rfl) ?_))
      refine (pwith_c _ t a { x with refs := y.refs } [] _ _ _ _ _ _ W3 S3.out.oldX (S3.out.g 0 rfl) (turn_none _ _) HZ.out H8.out (Nat.le_of_lt ha) (Nat.le_of_ble_eq_true rfl) (fun u hu => by cases hu)).mono ?_
      rintro e W4 ⟨vd4, vf4, rfl, hT4, hb⟩
      obtain ⟨ad4, cap4, af4, capf4, rfl, rfl⟩ := hT4.form
      clear h_x h_d
      obtain ⟨tn, htn⟩ : ∃ tn : TabL, tn = ⟨putD1 t.ds a { x with refs := y.refs }, turnF t.fs []⟩ := ⟨_, rfl⟩
      rw [← htn] at hT4 ⊢
      have HTN := Lib.hid htn
      have S4 := Lib.hid ((S3.out.call hb).more (TabX.firm _ _ _) hT4)
      clear htn hb hT4
      have h_r := (S4.out.at 2 rfl)
      go_wp2_with (first | (refine wpList_store_row rfl 25 _ _ rfl _ rfl rfl h_r rfl (by kernel_rfl) rfl ?_; intro W5 hb hg hs hn; have S5 := Lib.hid (S4.out.set 2 rfl hb hg hs hn); clear hb hg hs hn))
      refine bodyPost_ret (HRET.out _ _ _ (S5.out.at 2 rfl) rfl _ rfl) rfl ?_
      rw [HR.out]
      rw [show (⟨t.ds.set a { x with refs := y.refs }, t.fs⟩ : TabL) = tn by rw [HTN.out, put_old ha]; rfl]
      exact ⟨_, _, rfl, S5.out.gX 1 rfl, S5.out.bel⟩
theorem prefs_small {t : TabL} (hr : RightT t) (hz : SizeT t) {i : Nat} (hi : i < t.ds.length) : 0 ≤ t.ds[i].refs ∧ t.ds[i].refs ≤ 400 := by
  have h1 := (desc_right hr hi).1
  have h2 := refs_bound t.fs i 20 20 hz.2.1 hz.2.2
  omega
end Go.Proofs.Ytfcjmcenaankfaa
