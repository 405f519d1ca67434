/-
  The program's Open, Set, Dup, Close.
-/
import Derived.Test.YtbcmhjgjcknfmaaHdlPrgD
namespace Go.Proofs.Ytbcmhjgjcknfmaa
open Go.RowKit Go.Shelf
attribute [local go_sem ↓] Go.wp_at_zero Go.wp_at_succ

theorem turn_one {X : Nat → Prop} {W W' : World} (p fd : Nat) (v : Int) {t : TypeId} {fr : Nat × Nat} (hX : Old X W) (hn : W'.heap[W.heap.size]? = some (.cells #[.int .i64 p, .int .i64 fd, .int .i64 v] t fr)) : RdX 3 (.slice (some ⟨W.heap.size, 0, none⟩) [TurnL.mk p fd v].length 1) [TurnL.mk p fd v].length (cellsU [⟨p, fd, v⟩]) X W' := by
  refine ⟨rd_block (xs := cellsU [⟨p, fd, v⟩]) hn rfl (show 1 ≤ maxLen by decide) (Array.getElem?_eq_some_iff.1 hn).1, fun g hg => ?_⟩
  intro a n c e _
  injection e with e
  injection e with e
  subst e
  have := hX g hg
  show W.heap.size ≠ g
  omega
theorem turn_none (X : Nat → Prop) (W : World) : RdX 3 (.slice none ([] : List TurnL).length 0) ([] : List TurnL).length (cellsU []) X W := RdX.none0 _ _ _
theorem put_old {ds : List DescL} {i : Nat} (h : i < ds.length) (x : DescL) : putD1 ds i x = ds.set i x := by unfold putD1; rw [if_neg (by omega)]
theorem eight_T {t : TabL} (hr : RightT t) : ∀ r ∈ t.fs, r.length = 8 := fun r h => (hr.1 r h).1
theorem least_T {t : TabL} (hr : RightT t) {k : Nat} (hk : k < t.fs.length) : ∀ x ∈ t.fs[k], -1 ≤ x := fun x hx => ((hr.1 _ (List.getElem_mem hk)).2 x hx).1
theorem refs_T {t : TabL} (hr : RightT t) : ∀ d ∈ t.ds, 0 ≤ d.refs := fun d hd => by
  obtain ⟨i, hi⟩ := List.mem_iff_getElem?.1 hd
  have := (hr.2 i d hi).1
  omega
theorem firstI_yes {r : List Int} {f : Nat} (hf : f = firstR r) (h : f < r.length) : firstI r = (f : Int) := by unfold firstI; rw [← hf, if_pos h]
theorem firstI_no {r : List Int} (h : ¬ firstR r < r.length) : firstI r = -1 := by unfold firstI; rw [if_neg h]
set_option maxRecDepth 100000 in
set_option maxHeartbeats 4000000 in
theorem popen_c (X : Nat → Prop) (t : TabL) (p : Int) (x : DescL) (ad af : Option Addr) (cap capf : Nat) (w : World) (hX : Old X w) (hT : TabX t (.slice ad t.ds.length cap) (.slice af t.fs.length capf) X w) (hz : SizeT t) (hr : RightT t) :
    Calls Try.prog 13 #[tabV ad t.ds.length cap af t.fs.length capf, .int .i64 p, dvalD x] w fun e w' => TabIs2 X (openT t p x).1 (.int .i64 (openT t p x).2.1) (openT t p x).2.2 e w w' := by
  have S0 := Lib.hid (Sf.start (G := [TabX t (.slice ad t.ds.length cap) (.slice af t.fs.length capf)]) hX (th1 (TabX.firm _ _ _) hT))
  have HZ := Lib.hid hz
  have HRT := Lib.hid hr
  have H8 := Lib.hid (eight_T hr)
  have HRET : Hid (∀ (W : World) (cs : Array Value) (fr), W.heap[w.heap.size + 2]? = some (.cells cs 25 fr) → cs.size = 2 → ∀ tmps : Array Value, tmps.getD 6 undef = .pointer (some ⟨w.heap.size + 2, 0, none⟩) → (results Try.f13 tmps).run Try.prog W = .ok (.tuple #[.agg cs, tmps.getD 7 undef, tmps.getD 8 undef]) W) := Lib.hid fun W cs fr h hs tmps ht =>
  results_ctt (p := 6) (u := 7) (v := 8) (ty := 25) rfl tmps W (w.heap.size + 2) _ cs fr _ ht h Try.underlying25 rfl (by rw [hs]; kernel_rfl)
  clear hX hT hz hr
  go_enter Try.func13, Try.ntmps13
  go_upto_region 1 with (fail)
  refine code_fresh3 ?_
  intro W1 hb hA0 hA1 hA2 hs
  have S1 := Lib.hid (S0.out.new3 hb hA0 hA1 hA2)
  clear hb hA0 hA1 hA2 hs
  have h_d := (S1.out.at 0 rfl)
  go_wp2_with (first | (refine wpList_load_row rfl 25 _ rfl _ rfl 25 _ (0, 0) _ h_d Try.underlying25 rfl (by kernel_rfl) ?_))
  refine (phas_c t _ _ _ _ _ (S1.out.g 0 rfl) p).mono ?_
  rintro e W2 ⟨rfl, hb⟩
  clear h_d
  have S2 := Lib.hid (S1.out.call hb)
  clear hb
  cases hin : inT t p with
  | false =>
    have HR : Hid (openT t p x = (t, 0, 1)) := Lib.hid (if_pos hin)
    clear hin
    go_upto_region 2 with (fail)
    have h_r := (S2.out.at 2 rfl)
    have h_d := (S2.out.at 0 rfl)
    go_wp2_with (first | (refine wpList_load_row rfl 25 _ rfl _ rfl 25 _ (0, 0) _ h_d Try.underlying25 rfl (by kernel_rfl) ?_) | (refine wpList_store_row rfl 25 _ _ rfl _ rfl rfl h_r rfl (by kernel_rfl) rfl ?_; intro W3 hb hg hs hn; have S3 := Lib.hid (S2.out.set 2 rfl hb hg hs hn); clear hb hg hs hn))
    refine bodyPost_ret (HRET.out _ _ _ (S3.out.at 2 rfl) rfl _ rfl) rfl ?_
    rw [HR.out]
    exact ⟨_, _, rfl, S3.out.gX 0 rfl, S3.out.bel⟩
  | true =>
    have HR0 : Hid (openT t p x = if (rowT t p).length ≤ firstR (rowT t p) then (t, 0, 13) else (⟨putD1 t.ds (freeD t.ds) { x with refs := 1 }, putF t.fs p.toNat (firstR (rowT t p)) (freeD t.ds)⟩, ((firstR (rowT t p) : Nat) : Int), 0)) := Lib.hid (if_neg (by rw [hin]; decide))
    obtain ⟨a, rfl, ha⟩ := in_T hin
    clear hin
    have a0 : (0 : Int) ≤ (a : Int) := by omega
    have a1 : (a : Int) < (t.fs.length : Int) := by omega
    rw [row_at ha] at HR0
    go_upto_region 3 with (fail)
    obtain ⟨b, off, ar, cr, eaf, _, cR, hR⟩ := TabX.row (S2.out.g 0 rfl) a ha
    subst eaf
    have hr8 : (t.fs[a]).length = 8 := H8.out _ (List.getElem_mem ha)
    have hrm := least_T HRT.out ha
    obtain ⟨r, hrow⟩ : ∃ r, r = t.fs[a] := ⟨_, rfl⟩
    rw [← hrow] at cR hR hr8 hrm
    have HROW := Lib.hid hrow
    have HR8 := Lib.hid hr8
    clear hrow hr8
    rw [← HROW.out] at HR0
    obtain ⟨d0, d1⟩ := cells2 (S2.out.at 0 rfl)
    go_wp2_with fail
    refine (index_c r _ _ _ hR hrm (by rw [HR8.out]; decide)).mono ?_
    rintro e W3 ⟨rfl, hb⟩
    clear cR d0 d1
    have S3 := Lib.hid (S2.out.call hb)
    clear hR hrm
    clear hb
    by_cases hfr : r.length ≤ firstR r
    · rw [firstI_no (by omega)]
      have HR := Lib.hid (HR0.out.trans (if_pos hfr))
      clear hfr
      go_upto_region 5 with (fail)
      have h_r := (S3.out.at 2 rfl)
      have h_d := (S3.out.at 0 rfl)
      go_wp2_with (first | (refine wpList_load_row rfl 25 _ rfl _ rfl 25 _ (0, 0) _ h_d Try.underlying25 rfl (by kernel_rfl) ?_) | (refine wpList_store_row rfl 25 _ _ rfl _ rfl rfl h_r rfl (by kernel_rfl) rfl ?_; intro W4 hb hg hs hn; have S4 := Lib.hid (S3.out.set 2 rfl hb hg hs hn); clear hb hg hs hn))
      refine bodyPost_ret (HRET.out _ _ _ (S4.out.at 2 rfl) rfl _ rfl) rfl ?_
      rw [HR.out]
      exact ⟨_, _, rfl, S4.out.gX 0 rfl, S4.out.bel⟩
    · obtain ⟨f, hf⟩ : ∃ f, f = firstR r := ⟨_, rfl⟩
      have hf2 : f < r.length := by omega
      rw [firstI_yes hf hf2]
      have HR : Hid (openT t (a : Int) x = (⟨putD1 t.ds (freeD t.ds) { x with refs := 1 }, putF t.fs a f (freeD t.ds)⟩, (f : Int), 0)) := Lib.hid (by rw [HR0.out, if_neg hfr, Int.toNat_natCast, ← hf])
      have HF8 := Lib.hid (show f < 8 by rw [← HR8.out]; exact hf2)
      have f2 : decide ((f : Int) < 0) = false := decide_eq_false (by omega)
      clear hf hfr hf2 HR0
      obtain ⟨-, -, -, -, x4, -⟩ := cells6 (S3.out.at 1 rfl)
      have fx := fun j => Lib.frozen_of_heap (S3.out.at 1 rfl) j
      go_upto_region 7 with (fail)
      clear x4 fx
      refine code_set1 (S3.out.at 1 rfl) ?_
      intro W4 hb hg hs hn
      have S4 := Lib.hid (S3.out.set 1 rfl hb hg hs hn)
      clear hb hg hs hn
      have h_d := (S4.out.at 0 rfl)
      go_wp2_with (first | (refine wpList_load_row rfl 25 _ rfl _ rfl 25 _ (0, 0) _ h_d Try.underlying25 rfl (by kernel_rfl) ?_))
      refine (pvacant_c t _ _ _ _ _ (S4.out.g 0 rfl) HZ.out (refs_T HRT.out)).mono ?_
      rintro e W5 ⟨rfl, hb⟩
      clear h_d
      have S5 := Lib.hid (S4.out.call hb)
      obtain ⟨i, hi⟩ : ∃ i, i = freeD t.ds := ⟨_, rfl⟩
      have HI := Lib.hid (show i ≤ t.ds.length by rw [hi]; exact free_le t.ds)
      rw [← hi] at HR ⊢
      clear hi
      clear hb
      go_upto_region 8 with (fail)
      have h_x : W5.heap[w.heap.size + 1]? = some (.cells #[.int .i64 x.ino, .int .i64 x.pos, .bool x.rd, .bool x.wr, .int .i64 1, .int .i64 x.lock] 27 (0, 0)) := S5.out.at 1 rfl
      have h_d := (S5.out.at 0 rfl)
      go_wp2_with (first | (refine wpList_load_row rfl 25 _ rfl _ rfl 25 _ (0, 0) _ h_d Try.underlying25 rfl (by kernel_rfl) ?_) | (refine wpList_load_row rfl 27 _ rfl _ rfl 27 _ (0, 0) _ h_x Try.underlying27 rfl (by kernel_rfl) ?_) | (refine wpList_fresh1 ?_; intro W6 hb hn hs; have HU := Lib.hid (turn_one (X := Xo X [w.heap.size, w.heap.size + 1, w.heap.size + 2]) a f (i : Int) S5.out.oldX hn); have S6 := Lib.hid (S5.out.call hb); clear hb hn hs))
      clear h_x h_d
      refine (pwith_c _ t i { x with refs := 1 } [⟨a, f, (i : Int)⟩] _ _ _ _ _ _ W6 S6.out.oldX (S6.out.g 0 rfl) HU.out HZ.out H8.out HI.out (Nat.le_of_ble_eq_true rfl) (fun u hu => by rw [List.mem_singleton] at hu; subst hu; exact ⟨ha, HF8.out⟩)).mono ?_
      rintro e W7 ⟨vd7, vf7, rfl, hT7, hb⟩
      obtain ⟨ad7, cap7, af7, capf7, rfl, rfl⟩ := hT7.form
      obtain ⟨tn, htn⟩ : ∃ tn : TabL, tn = ⟨putD1 t.ds i { x with refs := 1 }, turnF t.fs [⟨a, f, (i : Int)⟩]⟩ := ⟨_, rfl⟩
      rw [← htn] at hT7 ⊢
      have HTN := Lib.hid htn
      have S7 := Lib.hid ((S6.out.call hb).more (TabX.firm _ _ _) hT7)
      clear htn hb hT7
      have h_r := (S7.out.at 2 rfl)
      go_wp2_with (first | (refine wpList_store_row rfl 25 _ _ rfl _ rfl rfl h_r rfl (by kernel_rfl) rfl ?_; intro W8 hb hg hs hn; have S8 := Lib.hid (S7.out.set 2 rfl hb hg hs hn); clear hb hg hs hn))
      refine bodyPost_ret (HRET.out _ _ _ (S8.out.at 2 rfl) rfl _ rfl) rfl ?_
      rw [HR.out]
      rw [show (⟨putD1 t.ds i { x with refs := 1 }, putF t.fs a f (i : Int)⟩ : TabL) = tn from HTN.out.symm]
      exact ⟨_, _, rfl, S8.out.gX 1 rfl, S8.out.bel⟩
theorem set_no1 {t : TabL} {i : Int} {x : DescL} (h : inD t i = false) : setT t i x = t := by
  unfold inD at h
  rw [Bool.and_eq_false_iff, decide_eq_false_iff_not, decide_eq_false_iff_not] at h
  unfold setT
  refine if_pos ?_
  rcases h with h | h
  · exact .inl (by omega)
  · exact .inr (.inl (by omega))
theorem inD_T {t : TabL} {i : Int} (h : inD t i = true) : ∃ k : Nat, i = k ∧ k < t.ds.length := by
  unfold inD at h
  simp only [Bool.and_eq_true, decide_eq_true_iff] at h
  obtain ⟨k, rfl⟩ := Int.eq_ofNat_of_zero_le h.1
  exact ⟨k, rfl, by omega⟩
set_option maxRecDepth 100000 in
set_option maxHeartbeats 4000000 in
theorem pset_c (X : Nat → Prop) (t : TabL) (i : Int) (x : DescL) (ad af : Option Addr) (cap capf : Nat) (w : World) (hX : Old X w) (hT : TabX t (.slice ad t.ds.length cap) (.slice af t.fs.length capf) X w) (hz : SizeT t) (hr : RightT t) :
    Calls Try.prog 24 #[tabV ad t.ds.length cap af t.fs.length capf, .int .i64 i, dvalD x] w fun e w' => TabIs X (setT t i x) e w w' := by
  have S0 := Lib.hid (Sf.start (G := [TabX t (.slice ad t.ds.length cap) (.slice af t.fs.length capf)]) hX (th1 (TabX.firm _ _ _) hT))
  have HZ := Lib.hid hz
  have HRT := Lib.hid hr
  have H8 := Lib.hid (eight_T hr)
  have HRET : Hid (∀ (W : World) (cs : Array Value) (fr), W.heap[w.heap.size + 2]? = some (.cells cs 25 fr) → cs.size = 2 → ∀ tmps : Array Value, tmps.getD 6 undef = .pointer (some ⟨w.heap.size + 2, 0, none⟩) → (results Try.f24 tmps).run Try.prog W = .ok (.agg cs) W) := Lib.hid fun W cs fr h hs tmps ht =>
  results_cell_row (p := 6)  (ty := 25) rfl tmps W (w.heap.size + 2) _ cs fr _ ht h Try.underlying25 rfl (by rw [hs]; kernel_rfl)
  clear hX hT hz hr
  go_enter Try.func24, Try.ntmps24
  go_upto_region 1 with (fail)
  refine code_fresh3 ?_
  intro W1 hb hA0 hA1 hA2 hs
  have S1 := Lib.hid (S0.out.new3 hb hA0 hA1 hA2)
  clear hb hA0 hA1 hA2 hs
  have h_d := (S1.out.at 0 rfl)
  go_wp2_with (first | (refine wpList_load_row rfl 25 _ rfl _ rfl 25 _ (0, 0) _ h_d Try.underlying25 rfl (by kernel_rfl) ?_))
  refine (phasD_c t _ _ _ _ _ (S1.out.g 0 rfl) i).mono ?_
  rintro e W2 ⟨rfl, hb⟩
  clear h_d
  have S2 := Lib.hid (S1.out.call hb)
  clear hb
  cases hin : inD t i with
  | false =>
    have HR : Hid (setT t i x = t) := Lib.hid (set_no1 hin)
    clear hin
    go_upto_region 2 with (fail)
    have h_r := (S2.out.at 2 rfl)
    have h_d := (S2.out.at 0 rfl)
    go_wp2_with (first | (refine wpList_load_row rfl 25 _ rfl _ rfl 25 _ (0, 0) _ h_d Try.underlying25 rfl (by kernel_rfl) ?_) | (refine wpList_store_row rfl 25 _ _ rfl _ rfl rfl h_r rfl (by kernel_rfl) rfl ?_; intro W3 hb hg hs hn; have S3 := Lib.hid (S2.out.set 2 rfl hb hg hs hn); clear hb hg hs hn))
    refine bodyPost_ret (HRET.out _ _ _ (S3.out.at 2 rfl) rfl _ rfl) rfl ?_
    rw [HR.out]
    exact ⟨_, _, rfl, S3.out.gX 0 rfl, S3.out.bel⟩
  | true =>
    obtain ⟨a, rfl, ha⟩ := inD_T hin
    clear hin
    have a0 : (0 : Int) ≤ (a : Int) := by omega
    have a1 : (a : Int) < (t.ds.length : Int) := by omega
    obtain ⟨b, off, ead, -, -, -, -, c4, -⟩ := TabX.desc (S2.out.g 0 rfl) a ha
    subst ead
    have hy0 := refs_T HRT.out _ (List.getElem_mem ha)
    obtain ⟨y, hy⟩ : ∃ y, y = t.ds[a] := ⟨_, rfl⟩
    rw [← hy] at c4 hy0
    have HS0 : Hid (setT t (a : Int) x = if y.refs < 1 then t else ⟨t.ds.set a { x with refs := y.refs }, t.fs⟩) := Lib.hid (by unfold setT; rw [desc_at ha, ← hy]; by_cases h : y.refs < 1; rw [if_pos (.inr (.inr h)), if_pos h]; rw [if_neg (by omega), if_neg h, Int.toNat_natCast])
    have HY := Lib.hid hy
    clear hy
    obtain ⟨d0, d1⟩ := cells2 (S2.out.at 0 rfl)
    by_cases h3 : y.refs = 0
    · have i3 : decide (y.refs = 0) = true := decide_eq_true h3
      have i4 : (y.refs == 0) = true := by rw [h3]; rfl
      have HR := Lib.hid (HS0.out.trans (if_pos (by omega)))
      clear h3
      go_upto_region 2 with (fail)
      clear d0 d1
      have h_r := (S2.out.at 2 rfl)
      have h_d := (S2.out.at 0 rfl)
      go_wp2_with (first | (refine wpList_load_row rfl 25 _ rfl _ rfl 25 _ (0, 0) _ h_d Try.underlying25 rfl (by kernel_rfl) ?_) | (refine wpList_store_row rfl 25 _ _ rfl _ rfl rfl h_r rfl (by kernel_rfl) rfl ?_; intro W3 hb hg hs hn; have S3 := Lib.hid (S2.out.set 2 rfl hb hg hs hn); clear hb hg hs hn))
      refine bodyPost_ret (HRET.out _ _ _ (S3.out.at 2 rfl) rfl _ rfl) rfl ?_
      rw [HR.out]
      exact ⟨_, _, rfl, S3.out.gX 0 rfl, S3.out.bel⟩
    · have i3 : decide (y.refs = 0) = false := decide_eq_false h3
      have i4 : (y.refs == 0) = false := by rw [beq_eq_false_iff_ne]; exact h3
      have HR := Lib.hid (HS0.out.trans (if_neg (by omega)))
      clear h3 hy0
      go_upto_region 3 with (fail)
      obtain ⟨-, -, -, -, x4, -⟩ := cells6 (S2.out.at 1 rfl)
      have fx := fun j => Lib.frozen_of_heap (S2.out.at 1 rfl) j
      go_upto_region 4 with (fail)
      clear d0 d1 c4 x4 fx
      refine code_set1 (S2.out.at 1 rfl) ?_
      intro W3 hb hg hs hn
      have S3 := Lib.hid (S2.out.set 1 rfl hb hg hs hn)
      clear hb hg hs hn
      have h_x : W3.heap[w.heap.size + 1]? = some (.cells #[.int .i64 x.ino, .int .i64 x.pos, .bool x.rd, .bool x.wr, .int .i64 y.refs, .int .i64 x.lock] 27 (0, 0)) := S3.out.at 1 rfl
      have h_d := (S3.out.at 0 rfl)
      go_wp2_with (first | (refine wpList_load_row rfl 25 _ rfl _ rfl 25 _ (0, 0) _ h_d Try.underlying25 rfl (by kernel_rfl) ?_) | (refine wpList_load_row rfl 27 _ rfl _ rfl 27 _ (0, 0) _ h_x Try.underlying27 rfl (by kernel_rfl) ?_))
      refine (pwith_c _ t a { x with refs := y.refs } [] _ _ _ _ _ _ W3 S3.out.oldX (S3.out.g 0 rfl) (turn_none _ _) HZ.out H8.out (Nat.le_of_lt ha) (Nat.le_of_ble_eq_true rfl) (fun u hu => by cases hu)).mono ?_
      rintro e W4 ⟨vd4, vf4, rfl, hT4, hb⟩
      obtain ⟨ad4, cap4, af4, capf4, rfl, rfl⟩ := hT4.form
      clear h_x h_d
      obtain ⟨tn, htn⟩ : ∃ tn : TabL, tn = ⟨putD1 t.ds a { x with refs := y.refs }, turnF t.fs []⟩ := ⟨_, rfl⟩
      rw [← htn] at hT4 ⊢
      have HTN := Lib.hid htn
      have S4 := Lib.hid ((S3.out.call hb).more (TabX.firm _ _ _) hT4)
      clear htn hb hT4
      have h_r := (S4.out.at 2 rfl)
      go_wp2_with (first | (refine wpList_store_row rfl 25 _ _ rfl _ rfl rfl h_r rfl (by kernel_rfl) rfl ?_; intro W5 hb hg hs hn; have S5 := Lib.hid (S4.out.set 2 rfl hb hg hs hn); clear hb hg hs hn))
      refine bodyPost_ret (HRET.out _ _ _ (S5.out.at 2 rfl) rfl _ rfl) rfl ?_
      rw [HR.out]
      rw [show (⟨t.ds.set a { x with refs := y.refs }, t.fs⟩ : TabL) = tn by rw [HTN.out, put_old ha]; rfl]
      exact ⟨_, _, rfl, S5.out.gX 1 rfl, S5.out.bel⟩
theorem prefs_small {t : TabL} (hr : RightT t) (hz : SizeT t) {i : Nat} (hi : i < t.ds.length) : 0 ≤ t.ds[i].refs ∧ t.ds[i].refs ≤ 400 := by
  have h1 := (desc_right hr hi).1
  have h2 := refs_bound t.fs i 20 20 hz.2.1 hz.2.2
  omega
set_option maxRecDepth 100000 in
set_option maxHeartbeats 4000000 in
theorem pdup_c (X : Nat → Prop) (t : TabL) (p fd : Int) (ad af : Option Addr) (cap capf : Nat) (w : World) (hX : Old X w) (hT : TabX t (.slice ad t.ds.length cap) (.slice af t.fs.length capf) X w) (hz : SizeT t) (hr : RightT t) :
    Calls Try.prog 15 #[tabV ad t.ds.length cap af t.fs.length capf, .int .i64 p, .int .i64 fd] w fun e w' => TabIs2 X (dupT t p fd).1 (.int .i64 (dupT t p fd).2.1) (dupT t p fd).2.2 e w w' := by
  have S0 := Lib.hid (Sf.start (G := [TabX t (.slice ad t.ds.length cap) (.slice af t.fs.length capf)]) hX (th1 (TabX.firm _ _ _) hT))
  have HZ := Lib.hid hz
  have HRT := Lib.hid hr
  have H8 := Lib.hid (eight_T hr)
  have HRET : Hid (∀ (W : World) (cs : Array Value) (fr), W.heap[w.heap.size + 1]? = some (.cells cs 25 fr) → cs.size = 2 → ∀ tmps : Array Value, tmps.getD 6 undef = .pointer (some ⟨w.heap.size + 1, 0, none⟩) → (results Try.f15 tmps).run Try.prog W = .ok (.tuple #[.agg cs, tmps.getD 7 undef, tmps.getD 8 undef]) W) := Lib.hid fun W cs fr h hs tmps ht =>
  results_ctt (p := 6) (u := 7) (v := 8) (ty := 25) rfl tmps W (w.heap.size + 1) _ cs fr _ ht h Try.underlying25 rfl (by rw [hs]; kernel_rfl)
  clear hX hT hz hr
  go_enter Try.func15, Try.ntmps15
  go_upto_region 1 with (fail)
  refine code_fresh2 ?_
  intro W1 hb hA0 hA1 hs
  have S1 := Lib.hid (S0.out.new2 hb hA0 hA1)
  clear hb hA0 hA1 hs
  have h_d := (S1.out.at 0 rfl)
  go_wp2_with (first | (refine wpList_load_row rfl 25 _ rfl _ rfl 25 _ (0, 0) _ h_d Try.underlying25 rfl (by kernel_rfl) ?_))
  refine (pgetH_c t _ _ _ _ _ (S1.out.g 0 rfl) p fd HRT.out).mono ?_
  rintro e W2 ⟨hgot, hb⟩
  clear h_d
  have S2 := Lib.hid (S1.out.call hb)
  unfold GotIs at hgot
  subst hgot
  clear hb
  obtain ⟨y, hy⟩ : ∃ y, y = foundT t p fd := ⟨_, rfl⟩
  obtain ⟨pl, hpl⟩ : ∃ pl, pl = placeT t p fd := ⟨_, rfl⟩
  obtain ⟨hs, hhs⟩ : ∃ hs, hs = hasT t p fd := ⟨_, rfl⟩
  rw [← hy, ← hpl, ← hhs]
  have HY := Lib.hid hy
  have HPL := Lib.hid hpl
  have HHS := Lib.hid hhs
  clear hy hpl hhs
  go_upto_region 2 with (fail)
  refine code_fresh1 ?_
  intro W3 hb hA0 hs
  have S3 := Lib.hid (S2.out.new1 hb hA0)
  clear hb hA0 hs
  cases hs with
  | false =>
    have HR : Hid (dupT t p fd = (t, 0, 12)) := Lib.hid (if_pos HHS.out.symm)
    have h_r := (S3.out.at 1 rfl)
    have h_d := (S3.out.at 0 rfl)
    go_wp2_with (first | (refine wpList_load_row rfl 25 _ rfl _ rfl 25 _ (0, 0) _ h_d Try.underlying25 rfl (by kernel_rfl) ?_) | (refine wpList_store_row rfl 25 _ _ rfl _ rfl rfl h_r rfl (by kernel_rfl) rfl ?_; intro W4 hb hg hs hn; have S4 := Lib.hid (S3.out.set 1 rfl hb hg hs hn); clear hb hg hs hn))
    refine bodyPost_ret (HRET.out _ _ _ (S4.out.at 1 rfl) rfl _ rfl) rfl ?_
    rw [HR.out]
    exact ⟨_, _, rfl, S4.out.gX 0 rfl, S4.out.bel⟩
  | true =>
    have HR0 : Hid (dupT t p fd = if (rowT t p).length ≤ firstR (rowT t p) then (t, 0, 13) else (⟨t.ds.set (placeT t p fd).toNat { foundT t p fd with refs := (foundT t p fd).refs + 1 }, putF t.fs p.toNat (firstR (rowT t p)) (placeT t p fd)⟩, ((firstR (rowT t p) : Nat) : Int), 0)) := Lib.hid (if_neg (by rw [← HHS.out]; decide))
    obtain ⟨a, m, rfl, rfl, ha, hm, h0⟩ := has_T HHS.out.symm
    obtain ⟨i, hi, hil, hrf⟩ := place_T HRT.out ha hm h0
    obtain ⟨e1, e2⟩ := found_at HHS.out.symm hi hil
    have hpi : pl = (i : Int) := HPL.out.trans e1
    subst hpi
    have hyi := HY.out.trans e2
    have hrs := prefs_small HRT.out HZ.out hil
    rw [← hyi] at hrs
    have HRS := Lib.hid hrs
    have HIL := Lib.hid hil
    have i0 : (0 : Int) ≤ (i : Int) := by omega
    have i1 : (i : Int) < (t.ds.length : Int) := by omega
    have a0 : (0 : Int) ≤ (a : Int) := by omega
    have a1 : (a : Int) < (t.fs.length : Int) := by omega
    have HM8 := Lib.hid (show m < 8 by rw [row_at ha, H8.out _ (List.getElem_mem ha)] at hm; exact hm)
    clear e1 e2 hyi hrs hil hrf hi h0 hm
    rw [row_at ha] at HR0
    go_upto_region 4 with (fail)
    obtain ⟨b, off, ar, cr, eaf, _, cR, hR⟩ := TabX.row (S3.out.g 0 rfl) a ha
    subst eaf
    have hr8 : (t.fs[a]).length = 8 := H8.out _ (List.getElem_mem ha)
    have hrm := least_T HRT.out ha
    obtain ⟨r, hrow⟩ : ∃ r, r = t.fs[a] := ⟨_, rfl⟩
    rw [← hrow] at cR hR hr8 hrm
    have HROW := Lib.hid hrow
    have HR8 := Lib.hid hr8
    clear hrow hr8
    rw [← HROW.out] at HR0
    obtain ⟨d0, d1⟩ := cells2 (S3.out.at 0 rfl)
    go_wp2_with fail
    refine (index_c r _ _ _ hR hrm (by rw [HR8.out]; decide)).mono ?_
    rintro e W4 ⟨rfl, hb⟩
    clear cR d0 d1
    have S4 := Lib.hid (S3.out.call hb)
    clear hR hrm
    clear hb
    by_cases hfr : r.length ≤ firstR r
    · rw [firstI_no (by omega)]
      have HR := Lib.hid (HR0.out.trans (if_pos hfr))
      clear hfr
      go_upto_region 6 with (fail)
      have h_r := (S4.out.at 1 rfl)
      have h_d := (S4.out.at 0 rfl)
      go_wp2_with (first | (refine wpList_load_row rfl 25 _ rfl _ rfl 25 _ (0, 0) _ h_d Try.underlying25 rfl (by kernel_rfl) ?_) | (refine wpList_store_row rfl 25 _ _ rfl _ rfl rfl h_r rfl (by kernel_rfl) rfl ?_; intro W5 hb hg hs hn; have S5 := Lib.hid (S4.out.set 1 rfl hb hg hs hn); clear hb hg hs hn))
      refine bodyPost_ret (HRET.out _ _ _ (S5.out.at 1 rfl) rfl _ rfl) rfl ?_
      rw [HR.out]
      exact ⟨_, _, rfl, S5.out.gX 0 rfl, S5.out.bel⟩
    · obtain ⟨f, hf⟩ : ∃ f, f = firstR r := ⟨_, rfl⟩
      have hf2 : f < r.length := by omega
      rw [firstI_yes hf hf2]
      have HR : Hid (dupT t (a : Int) (m : Int) = (⟨t.ds.set i { y with refs := y.refs + 1 }, putF t.fs a f (i : Int)⟩, (f : Int), 0)) := Lib.hid (by rw [HR0.out, if_neg hfr, ← HPL.out, ← HY.out, Int.toNat_natCast, Int.toNat_natCast, ← hf])
      have HF8 := Lib.hid (show f < 8 by rw [← HR8.out]; exact hf2)
      have f2 : decide ((f : Int) < 0) = false := decide_eq_false (by omega)
      have w1 : IntKind.i64.wrap (y.refs + 1) = y.refs + 1 := Go.IntWalk.i64_in _ (by have := HRS.out; omega)
      clear hf hfr hf2 HR0
      obtain ⟨-, -, -, -, n4, -⟩ := cells6 (S4.out.at 2 rfl)
      have fn := fun j => Lib.frozen_of_heap (S4.out.at 2 rfl) j
      go_upto_region 8 with (fail)
      clear n4 fn
      refine code_set1 (S4.out.at 2 rfl) ?_
      intro W5 hb hg hs hn
      have S5 := Lib.hid (S4.out.set 2 rfl hb hg hs hn)
      clear hb hg hs hn
      have h_n : W5.heap[W2.heap.size]? = some (.cells #[.int .i64 y.ino, .int .i64 y.pos, .bool y.rd, .bool y.wr, .int .i64 (y.refs + 1), .int .i64 y.lock] 27 (0, 0)) := S5.out.at 2 rfl
      have h_d := (S5.out.at 0 rfl)
      go_wp2_with (first | (refine wpList_load_row rfl 25 _ rfl _ rfl 25 _ (0, 0) _ h_d Try.underlying25 rfl (by kernel_rfl) ?_) | (refine wpList_load_row rfl 27 _ rfl _ rfl 27 _ (0, 0) _ h_n Try.underlying27 rfl (by kernel_rfl) ?_) | (refine wpList_fresh1 ?_; intro W6 hb hn hs; have HU := Lib.hid (turn_one (X := Xo X [w.heap.size, w.heap.size + 1, W2.heap.size]) a f (i : Int) S5.out.oldX hn); have S6 := Lib.hid (S5.out.call hb); clear hb hn hs))
      clear h_n h_d
      refine (pwith_c _ t i { y with refs := y.refs + 1 } [⟨a, f, (i : Int)⟩] _ _ _ _ _ _ W6 S6.out.oldX (S6.out.g 0 rfl) HU.out HZ.out H8.out (Nat.le_of_lt HIL.out) (Nat.le_of_ble_eq_true rfl) (fun u hu => by rw [List.mem_singleton] at hu; subst hu; exact ⟨ha, HF8.out⟩)).mono ?_
      rintro e W7 ⟨vd7, vf7, rfl, hT7, hb⟩
      obtain ⟨ad7, cap7, af7, capf7, rfl, rfl⟩ := hT7.form
      obtain ⟨tn, htn⟩ : ∃ tn : TabL, tn = ⟨putD1 t.ds i { y with refs := y.refs + 1 }, turnF t.fs [⟨a, f, (i : Int)⟩]⟩ := ⟨_, rfl⟩
      rw [← htn] at hT7 ⊢
      have HTN := Lib.hid htn
      have S7 := Lib.hid ((S6.out.call hb).more (TabX.firm _ _ _) hT7)
      clear htn hb hT7
      have h_r := (S7.out.at 1 rfl)
      go_wp2_with (first | (refine wpList_store_row rfl 25 _ _ rfl _ rfl rfl h_r rfl (by kernel_rfl) rfl ?_; intro W8 hb hg hs hn; have S8 := Lib.hid (S7.out.set 1 rfl hb hg hs hn); clear hb hg hs hn))
      refine bodyPost_ret (HRET.out _ _ _ (S8.out.at 1 rfl) rfl _ rfl) rfl ?_
      rw [HR.out]
      rw [show (⟨t.ds.set i { y with refs := y.refs + 1 }, putF t.fs a f (i : Int)⟩ : TabL) = tn by rw [HTN.out, put_old HIL.out]; rfl]
      exact ⟨_, _, rfl, S8.out.gX 1 rfl, S8.out.bel⟩
set_option maxRecDepth 100000 in
set_option maxHeartbeats 4000000 in
theorem pclose_c (X : Nat → Prop) (t : TabL) (p fd : Int) (ad af : Option Addr) (cap capf : Nat) (w : World) (hX : Old X w) (hT : TabX t (.slice ad t.ds.length cap) (.slice af t.fs.length capf) X w) (hz : SizeT t) (hr : RightT t) :
    Calls Try.prog 17 #[tabV ad t.ds.length cap af t.fs.length capf, .int .i64 p, .int .i64 fd] w fun e w' => TabIs2 X (closeT t p fd).1 (dvalD (closeT t p fd).2.1) (closeT t p fd).2.2 e w w' := by
  have S0 := Lib.hid (Sf.start (G := [TabX t (.slice ad t.ds.length cap) (.slice af t.fs.length capf)]) hX (th1 (TabX.firm _ _ _) hT))
  have HZ := Lib.hid hz
  have HRT := Lib.hid hr
  have H8 := Lib.hid (eight_T hr)
  have HRET : Hid (∀ (W : World) (cs cs2 : Array Value) (fr fr2), W.heap[w.heap.size + 1]? = some (.cells cs 25 fr) → cs.size = 2 → W.heap[w.heap.size + 2]? = some (.cells cs2 27 fr2) → cs2.size = 6 → ∀ tmps : Array Value, tmps.getD 6 undef = .pointer (some ⟨w.heap.size + 1, 0, none⟩) → tmps.getD 7 undef = .pointer (some ⟨w.heap.size + 2, 0, none⟩) → (results Try.f17 tmps).run Try.prog W = .ok (.tuple #[.agg cs, .agg cs2, tmps.getD 8 undef]) W) := Lib.hid fun W cs cs2 fr fr2 h hs h2 hs2 tmps ht ht2 =>
  results_cct (p := 6) (q := 7) (u := 8) (ty := 25) (ty2 := 27) rfl tmps W (w.heap.size + 1) (w.heap.size + 2) _ _ cs cs2 fr fr2 _ _ ht h ht2 h2 Try.underlying25 rfl (by rw [hs]; kernel_rfl) Try.underlying27 rfl (by rw [hs2]; kernel_rfl)
  clear hX hT hz hr
  go_enter Try.func17, Try.ntmps17
  go_upto_region 1 with (fail)
  refine code_fresh3 ?_
  intro W1 hb hA0 hA1 hA2 hs
  have S1 := Lib.hid (S0.out.new3 hb hA0 hA1 hA2)
  clear hb hA0 hA1 hA2 hs
  have h_d := (S1.out.at 0 rfl)
  go_wp2_with (first | (refine wpList_load_row rfl 25 _ rfl _ rfl 25 _ (0, 0) _ h_d Try.underlying25 rfl (by kernel_rfl) ?_))
  refine (pgetH_c t _ _ _ _ _ (S1.out.g 0 rfl) p fd HRT.out).mono ?_
  rintro e W2 ⟨hgot, hb⟩
  clear h_d
  have S2 := Lib.hid (S1.out.call hb)
  unfold GotIs at hgot
  subst hgot
  clear hb
  obtain ⟨y, hy⟩ : ∃ y, y = foundT t p fd := ⟨_, rfl⟩
  obtain ⟨pl, hpl⟩ : ∃ pl, pl = placeT t p fd := ⟨_, rfl⟩
  obtain ⟨hs, hhs⟩ : ∃ hs, hs = hasT t p fd := ⟨_, rfl⟩
  rw [← hy, ← hpl, ← hhs]
  have HY := Lib.hid hy
  have HPL := Lib.hid hpl
  have HHS := Lib.hid hhs
  clear hy hpl hhs
  go_upto_region 2 with (fail)
  refine code_fresh1 ?_
  intro W3 hb hA0 hs
  have S3 := Lib.hid (S2.out.new1 hb hA0)
  clear hb hA0 hs
  cases hs with
  | false =>
    have HR : Hid (closeT t p fd = (t, zeroD, 12)) := Lib.hid (if_pos HHS.out.symm)
    go_upto_region 3 with (fail)
    have h_d := (S3.out.at 0 rfl)
    have h_r := (S3.out.at 1 rfl)
    have h_q := (S3.out.at 2 rfl)
    go_wp2_with (first | (refine wpList_load_row rfl 25 _ rfl _ rfl 25 _ (0, 0) _ h_d Try.underlying25 rfl (by kernel_rfl) ?_) | (refine wpList_store_row rfl 25 _ _ rfl _ rfl rfl h_r rfl (by kernel_rfl) rfl ?_; intro W4 hb hg hs hn; have S4 := Lib.hid (S3.out.set 1 rfl hb hg hs hn); clear hb hg hs hn; have h_q := S4.out.at 2 rfl) | (refine wpList_store_row rfl 27 _ _ rfl _ rfl rfl h_q rfl (by kernel_rfl) rfl ?_; intro W5 hb hg hs hn; have S5 := Lib.hid (S4.out.set 2 rfl hb hg hs hn); clear hb hg hs hn))
    refine bodyPost_ret (HRET.out _ _ _ _ _ (S5.out.at 1 rfl) rfl (S5.out.at 2 rfl) rfl _ rfl rfl) rfl ?_
    rw [HR.out]
    exact ⟨_, _, rfl, S5.out.gX 0 rfl, S5.out.bel⟩
  | true =>
    have HR0 : Hid (closeT t p fd = (⟨t.ds.set (placeT t p fd).toNat (if (lessD (foundT t p fd)).refs = 0 then zeroD else lessD (foundT t p fd)), putF t.fs p.toNat fd.toNat (-1)⟩, lessD (foundT t p fd), 0)) := Lib.hid (if_neg (by rw [← HHS.out]; decide))
    obtain ⟨a, m, rfl, rfl, ha, hm, h0⟩ := has_T HHS.out.symm
    obtain ⟨i, hi, hil, hrf⟩ := place_T HRT.out ha hm h0
    obtain ⟨e1, e2⟩ := found_at HHS.out.symm hi hil
    have hpi : pl = (i : Int) := HPL.out.trans e1
    subst hpi
    have hyi := HY.out.trans e2
    have hrs := prefs_small HRT.out HZ.out hil
    rw [← hyi] at hrs
    have HRS := Lib.hid hrs
    have HIL := Lib.hid hil
    have i0 : (0 : Int) ≤ (i : Int) := by omega
    have i1 : (i : Int) < (t.ds.length : Int) := by omega
    have a0 : (0 : Int) ≤ (a : Int) := by omega
    have a1 : (a : Int) < (t.fs.length : Int) := by omega
    have HM8 := Lib.hid (show m < 8 by rw [row_at ha, H8.out _ (List.getElem_mem ha)] at hm; exact hm)
    clear e1 e2 hyi hrs hil hrf hi h0 hm
    have HR : Hid (closeT t (a : Int) (m : Int) = (⟨t.ds.set i (if (lessD y).refs = 0 then zeroD else lessD y), putF t.fs a m (-1)⟩, lessD y, 0)) := Lib.hid (by rw [HR0.out, ← HPL.out, ← HY.out, Int.toNat_natCast, Int.toNat_natCast, Int.toNat_natCast])
    clear HR0
    have w1 : IntKind.i64.wrap (y.refs - 1) = y.refs - 1 := Go.IntWalk.i64_in _ (by have := HRS.out; omega)
    obtain ⟨-, -, -, -, n4, -⟩ := cells6 (S3.out.at 3 rfl)
    have fn := fun j => Lib.frozen_of_heap (S3.out.at 3 rfl) j
    go_upto_region 5 with (fail)
    clear n4 fn
    refine code_set1 (S3.out.at 3 rfl) ?_
    intro W4 hb hg hs hn
    have S4 := Lib.hid (S3.out.set 3 rfl hb hg hs hn)
    clear hb hg hs hn
    have h_n : W4.heap[W2.heap.size]? = some (.cells #[.int .i64 y.ino, .int .i64 y.pos, .bool y.rd, .bool y.wr, .int .i64 (y.refs - 1), .int .i64 y.lock] 27 (0, 0)) := S4.out.at 3 rfl
    go_upto_region 6 with (first | (refine wpList_load_row rfl 27 _ rfl _ rfl 27 _ (0, 0) _ h_n Try.underlying27 rfl (by kernel_rfl) ?_))
    refine code_fresh1 ?_
    intro W5 hb hA0 hs
    clear h_n
    have S5 := Lib.hid (S4.out.new1 hb hA0)
    clear hb hA0 hs
    obtain ⟨-, -, -, -, n4, -⟩ := cells6 (S5.out.at 3 rfl)
    by_cases hz1 : y.refs - 1 = 0
    · have z1 : (y.refs - 1 == 0) = true := by rw [hz1]; rfl
      have z2 : decide (y.refs - 1 = 0) = true := decide_eq_true hz1
      have HR1 : Hid (closeT t (a : Int) (m : Int) = (⟨t.ds.set i zeroD, putF t.fs a m (-1)⟩, lessD y, 0)) := Lib.hid (by rw [HR.out, if_pos (show (lessD y).refs = 0 from hz1)])
      replace HR := HR1
      clear HR1 hz1
      have h_l := S5.out.at 4 rfl
      go_upto_region 8 with (first | (refine wpList_store_row rfl 27 _ _ rfl _ rfl rfl h_l rfl (by kernel_rfl) rfl ?_; intro W6 hb hg hs hn; have S6 := Lib.hid (S5.out.set 4 rfl hb hg hs hn); clear hb hg hs hn))
      clear n4 h_l
      have h_d := (S6.out.at 0 rfl)
      have h_l := (S6.out.at 4 rfl)
      have h_n := (S6.out.at 3 rfl)
      refine wp_region_held_drew (S := fun W => W.heap[w.heap.size]? = some (.cells #[.slice ad t.ds.length cap, .slice af t.fs.length capf] 25 (0, 0)) ∧ W.heap[W4.heap.size]? = some (.cells #[.int .i64 0, .int .i64 0, .bool false, .bool false, .int .i64 0, .int .i64 0] 27 (0, 0)) ∧ W.heap[W2.heap.size]? = some (.cells #[.int .i64 y.ino, .int .i64 y.pos, .bool y.rd, .bool y.wr, .int .i64 (y.refs - 1), .int .i64 y.lock] 27 (0, 0)) ∧ True) (by kernel_rfl) ⟨(S6.out.at 0 rfl), (S6.out.at 4 rfl), (S6.out.at 3 rfl), trivial⟩ (fun hHeld => ?_)
      clear h_d h_l h_n
      have S7 := Lib.hid (S6.out.call (Below.refl W6.heap.size W6).drew)
      generalize W6.drew = W7 at *
      refine wpAnyH_take (i := 0) rfl (by kernel_rfl) (by kernel_rfl) (by kernel_rfl) (fun _ _ _ h => h) (yieldsIf_load_row (by rfl) 25 _ rfl _ rfl 25 _ (0, 0) _ (fun _ h => h.1) Try.underlying25 rfl (by kernel_rfl)) hHeld ?_
      (try simp only [List.getElem_toArray]); (try simp only [List.getElem_cons_succ]); (try simp only [List.getElem_cons_zero]); (try simp only [Act.put]); (try simp only [List.setIfInBounds_toArray]); (try simp only [List.set_cons_succ]); (try simp only [List.set_cons_zero])
      refine wpAnyH_take (i := 1) (v := ?v1) rfl (by kernel_rfl) (by kernel_rfl) (by kernel_rfl) (fun _ _ _ h => h) (Or.inl ⟨by rfl, ?hy1⟩) hHeld ?rest1
      case hy1 => (intro w hSw; (try dsimp only at hSw); (try go_split_ands); go_simp; first | done | with_reducible rfl)
      (try simp only [List.getElem_toArray]); (try simp only [List.getElem_cons_succ]); (try simp only [List.getElem_cons_zero]); (try simp only [Act.put]); (try simp only [List.setIfInBounds_toArray]); (try simp only [List.set_cons_succ]); (try simp only [List.set_cons_zero])
      refine wpAnyH_take (i := 2) rfl (by kernel_rfl) (by kernel_rfl) (by kernel_rfl) (fun _ _ _ h => h) (yieldsIf_load_row (by rfl) 27 _ rfl _ rfl 27 _ (0, 0) _ (fun _ h => h.2.1) Try.underlying27 rfl (by kernel_rfl)) hHeld ?_
      (try simp only [List.getElem_toArray]); (try simp only [List.getElem_cons_succ]); (try simp only [List.getElem_cons_zero]); (try simp only [Act.put]); (try simp only [List.setIfInBounds_toArray]); (try simp only [List.set_cons_succ]); (try simp only [List.set_cons_zero])
      refine wpAnyH_take (i := 3) (v := ?v2) rfl (by kernel_rfl) (by kernel_rfl) (by kernel_rfl) (fun _ _ _ h => h) (Or.inl ⟨by rfl, ?hy2⟩) hHeld ?rest2
      case hy2 => (intro w hSw; (try dsimp only at hSw); (try go_split_ands); go_simp; first | done | with_reducible rfl)
      (try simp only [List.getElem_toArray]); (try simp only [List.getElem_cons_succ]); (try simp only [List.getElem_cons_zero]); (try simp only [Act.put]); (try simp only [List.setIfInBounds_toArray]); (try simp only [List.set_cons_succ]); (try simp only [List.set_cons_zero])
      refine wpAnyH_take (i := 4) (v := ?v3) rfl (by kernel_rfl) (by kernel_rfl) (by kernel_rfl) (fun _ _ _ h => h) (Or.inl ⟨by rfl, ?hy3⟩) hHeld ?rest3
      case hy3 => (intro w hSw; (try dsimp only at hSw); (try go_split_ands); go_simp; first | done | with_reducible rfl)
      (try simp only [List.getElem_toArray]); (try simp only [List.getElem_cons_succ]); (try simp only [List.getElem_cons_zero]); (try simp only [Act.put]); (try simp only [List.setIfInBounds_toArray]); (try simp only [List.set_cons_succ]); (try simp only [List.set_cons_zero])
      refine wpAnyH_take (i := 5) (v := ?v4) rfl (by kernel_rfl) (by kernel_rfl) (by kernel_rfl) (fun _ _ _ h => h) (Or.inl ⟨by rfl, ?hy4⟩) hHeld ?rest4
      case hy4 => (intro w hSw; (try dsimp only at hSw); (try go_split_ands); go_simp; first | done | with_reducible rfl)
      (try simp only [List.getElem_toArray]); (try simp only [List.getElem_cons_succ]); (try simp only [List.getElem_cons_zero]); (try simp only [Act.put]); (try simp only [List.setIfInBounds_toArray]); (try simp only [List.set_cons_succ]); (try simp only [List.set_cons_zero])
      refine wpAnyH_take (i := 8) rfl (by kernel_rfl) (by kernel_rfl) (by kernel_rfl) (fun _ _ _ h => h) (yieldsIf_load_row (by rfl) 27 _ rfl _ rfl 27 _ (0, 0) _ (fun _ h => h.2.2.1) Try.underlying27 rfl (by kernel_rfl)) hHeld ?_
      (try simp only [List.getElem_toArray]); (try simp only [List.getElem_cons_succ]); (try simp only [List.getElem_cons_zero]); (try simp only [Act.put]); (try simp only [List.setIfInBounds_toArray]); (try simp only [List.set_cons_succ]); (try simp only [List.set_cons_zero])
      refine wpAnyH_ready (rs := [6]) (by kernel_rfl) (by simp) ?_
      refine AllReadyH.cons rfl (fun K hK => ?_) AllReadyH.nil
      go_simp
      refine fresh1 (P := fun W => K _ W) ?_
      intro W8 hb hn hs
      have HU := Lib.hid (turn_one (X := Xo X [w.heap.size, w.heap.size + 1, w.heap.size + 2, W2.heap.size, W4.heap.size]) a m (-1) S7.out.oldX hn)
      have S8 := Lib.hid (S7.out.call hb)
      clear hb hn hs hHeld
      refine hK.out _ _ ⟨(S8.out.at 0 rfl), (S8.out.at 4 rfl), (S8.out.at 3 rfl), trivial⟩ (fun hHeld => ?_)
      clear hK K
      (try simp only [List.getElem_toArray]); (try simp only [List.getElem_cons_succ]); (try simp only [List.getElem_cons_zero]); (try simp only [Act.put]); (try simp only [List.setIfInBounds_toArray]); (try simp only [List.set_cons_succ]); (try simp only [List.set_cons_zero])
      refine wpAnyH_ready (rs := [7]) (by kernel_rfl) (by simp) ?_
      refine AllReadyH.cons rfl (fun K hK => ?_) AllReadyH.nil
      go_simp
      refine (pwith_c _ t i zeroD [⟨a, m, -1⟩] _ _ _ _ _ _ W8 S8.out.oldX (S8.out.g 0 rfl) HU.out HZ.out H8.out (Nat.le_of_lt HIL.out) (Nat.le_of_ble_eq_true rfl) (fun u hu => by rw [List.mem_singleton] at hu; subst hu; exact ⟨ha, HM8.out⟩)).mono ?_
      rintro e W9 ⟨vd9, vf9, rfl, hT9, hb⟩
      obtain ⟨ad9, cap9, af9, capf9, rfl, rfl⟩ := hT9.form
      obtain ⟨tn, htn⟩ : ∃ tn : TabL, tn = ⟨putD1 t.ds i zeroD, turnF t.fs [⟨a, m, -1⟩]⟩ := ⟨_, rfl⟩
      rw [← htn] at hT9 ⊢
      have HTN := Lib.hid htn
      have S9 := Lib.hid ((S8.out.call hb).more (TabX.firm _ _ _) hT9)
      clear htn hb hT9
      clear hHeld
      go_wp2_with fail
      refine hK.out _ _ ⟨(S9.out.at 0 rfl), (S9.out.at 4 rfl), (S9.out.at 3 rfl), trivial⟩ (fun hHeld => ?_)
      clear hK K
      (try simp only [List.getElem_toArray]); (try simp only [List.getElem_cons_succ]); (try simp only [List.getElem_cons_zero]); (try simp only [Act.put]); (try simp only [List.setIfInBounds_toArray]); (try simp only [List.set_cons_succ]); (try simp only [List.set_cons_zero])
      refine wpAnyH_ready (rs := [9]) (by kernel_rfl) (by simp) ?_
      refine AllReadyH.cons rfl (fun K hK => ?_) AllReadyH.nil
      rw [if_pos (by rfl)]
      refine wp_store_row 25 _ _ rfl _ rfl rfl (S9.out.at 1 rfl) rfl (by kernel_rfl) rfl ?_
      intro W10 hb hg hs hn
      have S10 := Lib.hid (S9.out.set 1 rfl hb hg hs hn)
      clear hb hg hs hn hHeld
      refine hK.out _ _ ⟨(S10.out.at 0 rfl), (S10.out.at 4 rfl), (S10.out.at 3 rfl), trivial⟩ (fun hHeld => ?_)
      clear hK K
      (try simp only [List.getElem_toArray]); (try simp only [List.getElem_cons_succ]); (try simp only [List.getElem_cons_zero]); (try simp only [Act.put]); (try simp only [List.setIfInBounds_toArray]); (try simp only [List.set_cons_succ]); (try simp only [List.set_cons_zero])
      refine wpAnyH_ready (rs := [10]) (by kernel_rfl) (by simp) ?_
      refine AllReadyH.cons rfl (fun K hK => ?_) AllReadyH.nil
      rw [if_pos (by rfl)]
      refine wp_store_row 27 _ _ rfl _ rfl rfl (S10.out.at 2 rfl) rfl (by kernel_rfl) rfl ?_
      intro W11 hb hg hs hn
      have S11 := Lib.hid (S10.out.set 2 rfl hb hg hs hn)
      clear hb hg hs hn hHeld
      refine hK.out _ _ ⟨(S11.out.at 0 rfl), (S11.out.at 4 rfl), (S11.out.at 3 rfl), trivial⟩ (fun hHeld => ?_)
      clear hK K
      (try simp only [List.getElem_toArray]); (try simp only [List.getElem_cons_succ]); (try simp only [List.getElem_cons_zero]); (try simp only [Act.put]); (try simp only [List.setIfInBounds_toArray]); (try simp only [List.set_cons_succ]); (try simp only [List.set_cons_zero])
      refine wpAnyH_take (i := 11) (v := ?v5) rfl (by kernel_rfl) (by kernel_rfl) (by kernel_rfl) (fun _ _ _ h => h) (Or.inl ⟨by rfl, ?hy5⟩) hHeld ?rest5
      case hy5 => (intro w hSw; (try dsimp only at hSw); (try go_split_ands); go_simp; first | done | with_reducible rfl)
      (try simp only [List.getElem_toArray]); (try simp only [List.getElem_cons_succ]); (try simp only [List.getElem_cons_zero]); (try simp only [Act.put]); (try simp only [List.setIfInBounds_toArray]); (try simp only [List.set_cons_succ]); (try simp only [List.set_cons_zero])
      refine wpAnyH_done (by kernel_rfl) ?_ _
      go_wp2_with fail
      refine bodyPost_ret (HRET.out _ _ _ _ _ (S11.out.at 1 rfl) rfl (S11.out.at 2 rfl) rfl _ rfl rfl) rfl ?_
      rw [HR.out]
      rw [show (⟨t.ds.set i zeroD, putF t.fs a m (-1)⟩ : TabL) = tn by rw [HTN.out, put_old HIL.out]; rfl]
      exact ⟨_, _, rfl, S11.out.gX 1 rfl, S11.out.bel⟩
    · have z1 : (y.refs - 1 == 0) = false := by rw [beq_eq_false_iff_ne]; exact hz1
      have z2 : decide (y.refs - 1 = 0) = false := decide_eq_false hz1
      have HR1 : Hid (closeT t (a : Int) (m : Int) = (⟨t.ds.set i (lessD y), putF t.fs a m (-1)⟩, lessD y, 0)) := Lib.hid (by rw [HR.out, if_neg (show ¬ (lessD y).refs = 0 from hz1)])
      replace HR := HR1
      clear HR1 hz1
      go_upto_region 8 with (fail)
      clear n4
      have h_d := (S5.out.at 0 rfl)
      have h_l := (S5.out.at 4 rfl)
      have h_n := (S5.out.at 3 rfl)
      refine wp_region_held_drew (S := fun W => W.heap[w.heap.size]? = some (.cells #[.slice ad t.ds.length cap, .slice af t.fs.length capf] 25 (0, 0)) ∧ W.heap[W4.heap.size]? = some (.cells #[.int .i64 y.ino, .int .i64 y.pos, .bool y.rd, .bool y.wr, .int .i64 (y.refs - 1), .int .i64 y.lock] 27 (0, 0)) ∧ W.heap[W2.heap.size]? = some (.cells #[.int .i64 y.ino, .int .i64 y.pos, .bool y.rd, .bool y.wr, .int .i64 (y.refs - 1), .int .i64 y.lock] 27 (0, 0)) ∧ True) (by kernel_rfl) ⟨(S5.out.at 0 rfl), (S5.out.at 4 rfl), (S5.out.at 3 rfl), trivial⟩ (fun hHeld => ?_)
      clear h_d h_l h_n
      have S6 := Lib.hid (S5.out.call (Below.refl W5.heap.size W5).drew)
      generalize W5.drew = W6 at *
      refine wpAnyH_take (i := 0) rfl (by kernel_rfl) (by kernel_rfl) (by kernel_rfl) (fun _ _ _ h => h) (yieldsIf_load_row (by rfl) 25 _ rfl _ rfl 25 _ (0, 0) _ (fun _ h => h.1) Try.underlying25 rfl (by kernel_rfl)) hHeld ?_
      (try simp only [List.getElem_toArray]); (try simp only [List.getElem_cons_succ]); (try simp only [List.getElem_cons_zero]); (try simp only [Act.put]); (try simp only [List.setIfInBounds_toArray]); (try simp only [List.set_cons_succ]); (try simp only [List.set_cons_zero])
      refine wpAnyH_take (i := 1) (v := ?v6) rfl (by kernel_rfl) (by kernel_rfl) (by kernel_rfl) (fun _ _ _ h => h) (Or.inl ⟨by rfl, ?hy6⟩) hHeld ?rest6
      case hy6 => (intro w hSw; (try dsimp only at hSw); (try go_split_ands); go_simp; first | done | with_reducible rfl)
      (try simp only [List.getElem_toArray]); (try simp only [List.getElem_cons_succ]); (try simp only [List.getElem_cons_zero]); (try simp only [Act.put]); (try simp only [List.setIfInBounds_toArray]); (try simp only [List.set_cons_succ]); (try simp only [List.set_cons_zero])
      refine wpAnyH_take (i := 2) rfl (by kernel_rfl) (by kernel_rfl) (by kernel_rfl) (fun _ _ _ h => h) (yieldsIf_load_row (by rfl) 27 _ rfl _ rfl 27 _ (0, 0) _ (fun _ h => h.2.1) Try.underlying27 rfl (by kernel_rfl)) hHeld ?_
      (try simp only [List.getElem_toArray]); (try simp only [List.getElem_cons_succ]); (try simp only [List.getElem_cons_zero]); (try simp only [Act.put]); (try simp only [List.setIfInBounds_toArray]); (try simp only [List.set_cons_succ]); (try simp only [List.set_cons_zero])
      refine wpAnyH_take (i := 3) (v := ?v7) rfl (by kernel_rfl) (by kernel_rfl) (by kernel_rfl) (fun _ _ _ h => h) (Or.inl ⟨by rfl, ?hy7⟩) hHeld ?rest7
      case hy7 => (intro w hSw; (try dsimp only at hSw); (try go_split_ands); go_simp; first | done | with_reducible rfl)
      (try simp only [List.getElem_toArray]); (try simp only [List.getElem_cons_succ]); (try simp only [List.getElem_cons_zero]); (try simp only [Act.put]); (try simp only [List.setIfInBounds_toArray]); (try simp only [List.set_cons_succ]); (try simp only [List.set_cons_zero])
      refine wpAnyH_take (i := 4) (v := ?v8) rfl (by kernel_rfl) (by kernel_rfl) (by kernel_rfl) (fun _ _ _ h => h) (Or.inl ⟨by rfl, ?hy8⟩) hHeld ?rest8
      case hy8 => (intro w hSw; (try dsimp only at hSw); (try go_split_ands); go_simp; first | done | with_reducible rfl)
      (try simp only [List.getElem_toArray]); (try simp only [List.getElem_cons_succ]); (try simp only [List.getElem_cons_zero]); (try simp only [Act.put]); (try simp only [List.setIfInBounds_toArray]); (try simp only [List.set_cons_succ]); (try simp only [List.set_cons_zero])
      refine wpAnyH_take (i := 5) (v := ?v9) rfl (by kernel_rfl) (by kernel_rfl) (by kernel_rfl) (fun _ _ _ h => h) (Or.inl ⟨by rfl, ?hy9⟩) hHeld ?rest9
      case hy9 => (intro w hSw; (try dsimp only at hSw); (try go_split_ands); go_simp; first | done | with_reducible rfl)
      (try simp only [List.getElem_toArray]); (try simp only [List.getElem_cons_succ]); (try simp only [List.getElem_cons_zero]); (try simp only [Act.put]); (try simp only [List.setIfInBounds_toArray]); (try simp only [List.set_cons_succ]); (try simp only [List.set_cons_zero])
      refine wpAnyH_take (i := 8) rfl (by kernel_rfl) (by kernel_rfl) (by kernel_rfl) (fun _ _ _ h => h) (yieldsIf_load_row (by rfl) 27 _ rfl _ rfl 27 _ (0, 0) _ (fun _ h => h.2.2.1) Try.underlying27 rfl (by kernel_rfl)) hHeld ?_
      (try simp only [List.getElem_toArray]); (try simp only [List.getElem_cons_succ]); (try simp only [List.getElem_cons_zero]); (try simp only [Act.put]); (try simp only [List.setIfInBounds_toArray]); (try simp only [List.set_cons_succ]); (try simp only [List.set_cons_zero])
      refine wpAnyH_ready (rs := [6]) (by kernel_rfl) (by simp) ?_
      refine AllReadyH.cons rfl (fun K hK => ?_) AllReadyH.nil
      go_simp
      refine fresh1 (P := fun W => K _ W) ?_
      intro W7 hb hn hs
      have HU := Lib.hid (turn_one (X := Xo X [w.heap.size, w.heap.size + 1, w.heap.size + 2, W2.heap.size, W4.heap.size]) a m (-1) S6.out.oldX hn)
      have S7 := Lib.hid (S6.out.call hb)
      clear hb hn hs hHeld
      refine hK.out _ _ ⟨(S7.out.at 0 rfl), (S7.out.at 4 rfl), (S7.out.at 3 rfl), trivial⟩ (fun hHeld => ?_)
      clear hK K
      (try simp only [List.getElem_toArray]); (try simp only [List.getElem_cons_succ]); (try simp only [List.getElem_cons_zero]); (try simp only [Act.put]); (try simp only [List.setIfInBounds_toArray]); (try simp only [List.set_cons_succ]); (try simp only [List.set_cons_zero])
      refine wpAnyH_ready (rs := [7]) (by kernel_rfl) (by simp) ?_
      refine AllReadyH.cons rfl (fun K hK => ?_) AllReadyH.nil
      go_simp
      refine (pwith_c _ t i (lessD y) [⟨a, m, -1⟩] _ _ _ _ _ _ W7 S7.out.oldX (S7.out.g 0 rfl) HU.out HZ.out H8.out (Nat.le_of_lt HIL.out) (Nat.le_of_ble_eq_true rfl) (fun u hu => by rw [List.mem_singleton] at hu; subst hu; exact ⟨ha, HM8.out⟩)).mono ?_
      rintro e W8 ⟨vd8, vf8, rfl, hT8, hb⟩
      obtain ⟨ad8, cap8, af8, capf8, rfl, rfl⟩ := hT8.form
      obtain ⟨tn, htn⟩ : ∃ tn : TabL, tn = ⟨putD1 t.ds i (lessD y), turnF t.fs [⟨a, m, -1⟩]⟩ := ⟨_, rfl⟩
      rw [← htn] at hT8 ⊢
      have HTN := Lib.hid htn
      have S8 := Lib.hid ((S7.out.call hb).more (TabX.firm _ _ _) hT8)
      clear htn hb hT8
      clear hHeld
      go_wp2_with fail
      refine hK.out _ _ ⟨(S8.out.at 0 rfl), (S8.out.at 4 rfl), (S8.out.at 3 rfl), trivial⟩ (fun hHeld => ?_)
      clear hK K
      (try simp only [List.getElem_toArray]); (try simp only [List.getElem_cons_succ]); (try simp only [List.getElem_cons_zero]); (try simp only [Act.put]); (try simp only [List.setIfInBounds_toArray]); (try simp only [List.set_cons_succ]); (try simp only [List.set_cons_zero])
      refine wpAnyH_ready (rs := [9]) (by kernel_rfl) (by simp) ?_
      refine AllReadyH.cons rfl (fun K hK => ?_) AllReadyH.nil
      rw [if_pos (by rfl)]
      refine wp_store_row 25 _ _ rfl _ rfl rfl (S8.out.at 1 rfl) rfl (by kernel_rfl) rfl ?_
      intro W9 hb hg hs hn
      have S9 := Lib.hid (S8.out.set 1 rfl hb hg hs hn)
      clear hb hg hs hn hHeld
      refine hK.out _ _ ⟨(S9.out.at 0 rfl), (S9.out.at 4 rfl), (S9.out.at 3 rfl), trivial⟩ (fun hHeld => ?_)
      clear hK K
      (try simp only [List.getElem_toArray]); (try simp only [List.getElem_cons_succ]); (try simp only [List.getElem_cons_zero]); (try simp only [Act.put]); (try simp only [List.setIfInBounds_toArray]); (try simp only [List.set_cons_succ]); (try simp only [List.set_cons_zero])
      refine wpAnyH_ready (rs := [10]) (by kernel_rfl) (by simp) ?_
      refine AllReadyH.cons rfl (fun K hK => ?_) AllReadyH.nil
      rw [if_pos (by rfl)]
      refine wp_store_row 27 _ _ rfl _ rfl rfl (S9.out.at 2 rfl) rfl (by kernel_rfl) rfl ?_
      intro W10 hb hg hs hn
      have S10 := Lib.hid (S9.out.set 2 rfl hb hg hs hn)
      clear hb hg hs hn hHeld
      refine hK.out _ _ ⟨(S10.out.at 0 rfl), (S10.out.at 4 rfl), (S10.out.at 3 rfl), trivial⟩ (fun hHeld => ?_)
      clear hK K
      (try simp only [List.getElem_toArray]); (try simp only [List.getElem_cons_succ]); (try simp only [List.getElem_cons_zero]); (try simp only [Act.put]); (try simp only [List.setIfInBounds_toArray]); (try simp only [List.set_cons_succ]); (try simp only [List.set_cons_zero])
      refine wpAnyH_take (i := 11) (v := ?v10) rfl (by kernel_rfl) (by kernel_rfl) (by kernel_rfl) (fun _ _ _ h => h) (Or.inl ⟨by rfl, ?hy10⟩) hHeld ?rest10
      case hy10 => (intro w hSw; (try dsimp only at hSw); (try go_split_ands); go_simp; first | done | with_reducible rfl)
      (try simp only [List.getElem_toArray]); (try simp only [List.getElem_cons_succ]); (try simp only [List.getElem_cons_zero]); (try simp only [Act.put]); (try simp only [List.setIfInBounds_toArray]); (try simp only [List.set_cons_succ]); (try simp only [List.set_cons_zero])
      refine wpAnyH_done (by kernel_rfl) ?_ _
      go_wp2_with fail
      refine bodyPost_ret (HRET.out _ _ _ _ _ (S10.out.at 1 rfl) rfl (S10.out.at 2 rfl) rfl _ rfl rfl) rfl ?_
      rw [HR.out]
      rw [show (⟨t.ds.set i (lessD y), putF t.fs a m (-1)⟩ : TabL) = tn by rw [HTN.out, put_old HIL.out]; rfl]
      exact ⟨_, _, rfl, S10.out.gX 1 rfl, S10.out.bel⟩
end Go.Proofs.Ytbcmhjgjcknfmaa
