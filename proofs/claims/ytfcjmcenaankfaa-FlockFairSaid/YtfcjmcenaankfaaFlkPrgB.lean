/-
  The program's count, of either closure; its Holders.
-/
import Derived.Test.YtfcjmcenaankfaaFlkPrgA
import Derived.Test.YtfcjmcenaankfaaLaw11A
namespace Go.Proofs.Ytfcjmcenaankfaa
open Go.RowKit Go.Shelf
attribute [local go_sem ↓] Go.wp_at_zero Go.wp_at_succ

theorem one_cell {W : World} {b : Nat} {u : Value} {t : TypeId} {f : Nat × Nat} (h : W.heap[b]? = some (.cells #[u] t f)) : W.cell? ⟨b, 0, none⟩ = some u := by rw [Lib.cell_of_heap h]; rfl
def cntP (ds : List DescL) (h : Nat → DescL → Bool) (m : Nat) : Nat := (List.range m).countP fun k => decide (0 < (ds.getD k zeroD).refs) && h k (ds.getD k zeroD)
theorem cnt_next (ds : List DescL) (h : Nat → DescL → Bool) {k : Nat} (hk : k < ds.length) : cntP ds h (k + 1) = cntP ds h k + if (decide (0 < (ds[k]).refs) && h k ds[k]) = true then 1 else 0 := by
  unfold cntP
  rw [List.range_succ, List.countP_append, List.countP_singleton, getD_at hk]
theorem cnt_le (ds : List DescL) (h : Nat → DescL → Bool) (m : Nat) : cntP ds h m ≤ m := by
  have := List.countP_le_length (p := fun k => decide (0 < (ds.getD k zeroD).refs) && h k (ds.getD k zeroD)) (l := List.range m)
  rw [List.length_range] at this
  exact this
def hasB (ino l : Int) : Nat → DescL → Bool := fun _ d => decide (d.ino = ino) && decide (d.lock = l)
def wayB (i : Nat) (ino kind : Int) : Nat → DescL → Bool := fun k d => decide (k ≠ i) && (decide (d.ino = ino) && clashL kind d.lock)
theorem cnt_has (ds : List DescL) (ino l : Int) : cntP ds (hasB ino l) ds.length = heldN ds ino l := by
  have h : ∀ m, m ≤ ds.length → cntP ds (hasB ino l) m = heldN (ds.take m) ino l := fun m => by
    induction m with
    | zero => intro _; rfl
    | succ m ih =>
      intro hm
      rw [cnt_next ds _ (show m < ds.length by omega), held_next ds ino l (show m < ds.length by omega), ih (by omega)]
      rfl
  rw [h _ (Nat.le_refl _), List.take_of_length_le (Nat.le_refl _)]
theorem way_eq (i k : Nat) (ino kind : Int) (y : DescL) : (decide (0 < y.refs) && wayB i ino kind k y) = (mateB i ino k y && barsB kind y) := by
  unfold wayB mateB
  rw [clash_bars, show decide (1 ≤ y.refs) = decide (0 < y.refs) from decide_eq_decide.2 (by omega)]
  cases decide (0 < y.refs) <;> cases decide (k ≠ i) <;> cases decide (y.ino = ino) <;> rfl
theorem cnt_way (ds : List DescL) (i : Nat) (ino kind : Int) : decide (0 < cntP ds (wayB i ino kind) ds.length) = clashB ds i kind ino := by
  rw [Bool.eq_iff_iff, decide_eq_true_iff]
  unfold cntP clashB clashP
  rw [List.countP_pos_iff, List.any_eq_true]
  constructor <;> (rintro ⟨k, hk, h⟩; refine ⟨k, hk, ?_⟩)
  · rw [← way_eq]; exact h
  · rw [way_eq]; exact h
set_option maxRecDepth 100000 in
set_option maxHeartbeats 4000000 in
theorem pcount_h {X : Nat → Prop} (t : TabL) (ad af : Option Addr) (cap capf : Nat) (w : World) (hT : TabX t (.slice ad t.ds.length cap) (.slice af t.fs.length capf) X w) (pN pL : Nat) (h : Nat → DescL → Bool) (hz : SizeT t)
    (hM : ∀ (k : Nat) (hk : k < t.ds.length) (W : World), Below w.heap.size w W → Calls Try.prog 28 #[.int .i64 k, dvalD t.ds[k], .pointer (some ⟨pN, 0, none⟩), .pointer (some ⟨pL, 0, none⟩)] W fun e w' => e = .returned (.bool (h k t.ds[k])) ∧ Below W.heap.size W w') :
    Calls Try.prog 22 #[tabV ad t.ds.length cap af t.fs.length capf, .func (.func 28) #[] #[.pointer (some ⟨pN, 0, none⟩), .pointer (some ⟨pL, 0, none⟩)]] w fun e w' => e = .returned (.int .i64 (cntP t.ds h t.ds.length)) ∧ Below w.heap.size w w' := by
  have S0 := Lib.hid (Sf.start (w := w) (X := fun _ => False) (G := [TabX t (.slice ad t.ds.length cap) (.slice af t.fs.length capf)]) (fun _ h => h.elim) (th1 (TabX.firm _ _ _) ((TabX.firm _ _ _).sub hT fun _ h => h.elim)))
  have HZ := Lib.hid hz
  have HM := Lib.hid hM
  clear hT hz hM
  go_enter Try.func22, Try.ntmps22
  go_upto_region 1 with (fail)
  refine code_fresh1 ?_
  intro W1 hb hA0 hs
  have S1 := Lib.hid (S0.out.new1 hb hA0)
  clear hb hA0 hs
  obtain ⟨d0, d1⟩ := cells2 (S1.out.at 0 rfl)
  go_wp2_with fail
  go_loopw [5, 11] (fun a j wr => ∃ k : Nat, a = .int .i64 (cntP t.ds h k) ∧ j = .int .i64 k ∧ k ≤ t.ds.length ∧ Hid (Sf (fun _ => False) w [(w.heap.size, #[.slice ad t.ds.length cap, .slice af t.fs.length capf], 25)] [TabX t (.slice ad t.ds.length cap) (.slice af t.fs.length capf)] wr)) (fun _ j _ => t.ds.length - (RowKit.intOf j).toNat)
  case atStart => exact ⟨0, rfl, rfl, Nat.zero_le _, S1⟩
  case round =>
    clear S1 d0 d1
    obtain ⟨k, rfl, rfl, hk, S9⟩ := hrel
    have hl1 : t.ds.length ≤ 1000 := HZ.out.1
    by_cases hlt : k < t.ds.length
    · have iL1 : decide (k < t.ds.length) = true := decide_eq_true (by omega)
      have iM1 : decide ((k : Int) < (t.ds.length : Int)) = true := decide_eq_true (by omega)
      have k0 : (0 : Int) ≤ (k : Int) := by omega
      have k1 : (k : Int) < (t.ds.length : Int) := by omega
      have wk : IntKind.i64.wrap ((k : Int) + 1) = (k : Int) + 1 := Go.IntWalk.i64_in _ (by omega)
      obtain ⟨b, off, ead, cY⟩ := TabX.range (S9.out.g 0 rfl) k hlt
      subst ead
      have HN := Lib.hid (cnt_next t.ds h hlt)
      have hn1 := cnt_le t.ds h k
      obtain ⟨n, hn⟩ : ∃ n, n = cntP t.ds h k := ⟨_, rfl⟩
      rw [← hn] at HN hn1 ⊢
      clear hn
      have wn : IntKind.i64.wrap ((n : Int) + 1) = (n : Int) + 1 := Go.IntWalk.i64_in _ (by omega)
      have HMk := Lib.hid (HM.out k hlt)
      obtain ⟨y, hy⟩ : ∃ y, y = t.ds[k] := ⟨_, rfl⟩
      rw [← hy] at cY HN HMk
      clear hy
      go_upto_region 5 with (first | (refine wpList_load_mid rfl 44 _ rfl _ (off + k * 6) rfl _ _ cY Try.underlying44 rfl (by kernel_rfl) ?_) | (refine wpList_fresh1 ?_; intro W10 hb hn hs; have S10 := Lib.hid (S9.out.new1 hb hn); have h_x := S10.out.at 1 rfl; clear hb hn hs) | (refine wpList_store_row rfl 44 _ _ rfl _ rfl rfl h_x rfl (by kernel_rfl) rfl ?_; intro W11 hb hg hs hn; have S11 := Lib.hid (S10.out.set 1 rfl hb hg hs hn); clear hb hg hs hn))
      clear cY
      clear h_x
      have h_x := (S11.out.at 1 rfl)
      go_wp2_with (first | (refine wpList_load_row rfl 44 _ rfl _ rfl 44 _ (0, 0) _ h_x Try.underlying44 rfl (by kernel_rfl) ?_) | (refine wpList_load_rowG rfl 44 _ rfl _ rfl 44 _ (0, 0) _ h_x Try.underlying44 rfl (by kernel_rfl) ?_))
      refine (popen1_c y _).mono ?_
      rintro e W12 ⟨rfl, hb⟩
      clear h_x
      have S12 := Lib.hid (S11.out.call hb)
      clear hb
      by_cases h1 : 0 < y.refs
      · have i1 : decide (0 < y.refs) = true := decide_eq_true h1
        clear h1
        have h_x := (S12.out.at 1 rfl)
        go_wp2_with (first | (refine wpList_load_row rfl 44 _ rfl _ rfl 44 _ (0, 0) _ h_x Try.underlying44 rfl (by kernel_rfl) ?_) | (refine wpList_load_rowG rfl 44 _ rfl _ rfl 44 _ (0, 0) _ h_x Try.underlying44 rfl (by kernel_rfl) ?_))
        refine (HMk.out _ S12.out.bel).mono ?_
        rintro e W13 ⟨rfl, hb⟩
        clear h_x
        have S13 := Lib.hid (S12.out.call hb)
        clear hb
        obtain ⟨c, hc⟩ : ∃ c, c = h k y := ⟨_, rfl⟩
        rw [← hc] at HN ⊢
        clear hc
        cases c with
        | true =>
          have HC : Hid (cntP t.ds h (k + 1) = n + 1) := Lib.hid (by rw [HN.out, i1]; rfl)
          go_wp2_with fail
          go_roundw
          case rel => exact ⟨k + 1, by rw [HC.out]; go_num, by go_num, hlt, Lib.hid (S13.out.leave (by simp))⟩
          case measure => simp [RowKit.intOf]; omega
        | false =>
          have HC : Hid (cntP t.ds h (k + 1) = n) := Lib.hid (by rw [HN.out, i1]; rfl)
          go_wp2_with fail
          go_roundw
          case rel => exact ⟨k + 1, by rw [HC.out], by go_num, hlt, Lib.hid (S13.out.leave (by simp))⟩
          case measure => simp [RowKit.intOf]; omega
      · have i1 : decide (0 < y.refs) = false := decide_eq_false h1
        clear h1
        have HC : Hid (cntP t.ds h (k + 1) = n) := Lib.hid (by rw [HN.out, i1]; rfl)
        go_wp2_with fail
        go_roundw
        case rel => exact ⟨k + 1, by rw [HC.out], by go_num, hlt, Lib.hid (S12.out.leave (by simp))⟩
        case measure => simp [RowKit.intOf]; omega
    · have iL1 : decide (k < t.ds.length) = false := decide_eq_false (by omega)
      have iM1 : decide ((k : Int) < (t.ds.length : Int)) = false := decide_eq_false (by omega)
      have hke : k = t.ds.length := by omega
      subst hke
      clear hlt
      go_wp2_with fail
      go_ret
      exact ⟨rfl, S9.out.bel⟩
set_option maxRecDepth 100000 in
set_option maxHeartbeats 4000000 in
theorem pcount_l {X : Nat → Prop} (t : TabL) (ad af : Option Addr) (cap capf : Nat) (w : World) (hT : TabX t (.slice ad t.ds.length cap) (.slice af t.fs.length capf) X w) (pI pX pK : Nat) (h : Nat → DescL → Bool) (hz : SizeT t)
    (hM : ∀ (k : Nat) (hk : k < t.ds.length) (W : World), Below w.heap.size w W → Calls Try.prog 23 #[.int .i64 k, dvalD t.ds[k], .pointer (some ⟨pI, 0, none⟩), .pointer (some ⟨pX, 0, none⟩), .pointer (some ⟨pK, 0, none⟩)] W fun e w' => e = .returned (.bool (h k t.ds[k])) ∧ Below W.heap.size W w') :
    Calls Try.prog 22 #[tabV ad t.ds.length cap af t.fs.length capf, .func (.func 23) #[] #[.pointer (some ⟨pI, 0, none⟩), .pointer (some ⟨pX, 0, none⟩), .pointer (some ⟨pK, 0, none⟩)]] w fun e w' => e = .returned (.int .i64 (cntP t.ds h t.ds.length)) ∧ Below w.heap.size w w' := by
  have S0 := Lib.hid (Sf.start (w := w) (X := fun _ => False) (G := [TabX t (.slice ad t.ds.length cap) (.slice af t.fs.length capf)]) (fun _ h => h.elim) (th1 (TabX.firm _ _ _) ((TabX.firm _ _ _).sub hT fun _ h => h.elim)))
  have HZ := Lib.hid hz
  have HM := Lib.hid hM
  clear hT hz hM
  go_enter Try.func22, Try.ntmps22
  go_upto_region 1 with (fail)
  refine code_fresh1 ?_
  intro W1 hb hA0 hs
  have S1 := Lib.hid (S0.out.new1 hb hA0)
  clear hb hA0 hs
  obtain ⟨d0, d1⟩ := cells2 (S1.out.at 0 rfl)
  go_wp2_with fail
  go_loopw [5, 11] (fun a j wr => ∃ k : Nat, a = .int .i64 (cntP t.ds h k) ∧ j = .int .i64 k ∧ k ≤ t.ds.length ∧ Hid (Sf (fun _ => False) w [(w.heap.size, #[.slice ad t.ds.length cap, .slice af t.fs.length capf], 25)] [TabX t (.slice ad t.ds.length cap) (.slice af t.fs.length capf)] wr)) (fun _ j _ => t.ds.length - (RowKit.intOf j).toNat)
  case atStart => exact ⟨0, rfl, rfl, Nat.zero_le _, S1⟩
  case round =>
    clear S1 d0 d1
    obtain ⟨k, rfl, rfl, hk, S9⟩ := hrel
    have hl1 : t.ds.length ≤ 1000 := HZ.out.1
    by_cases hlt : k < t.ds.length
    · have iL1 : decide (k < t.ds.length) = true := decide_eq_true (by omega)
      have iM1 : decide ((k : Int) < (t.ds.length : Int)) = true := decide_eq_true (by omega)
      have k0 : (0 : Int) ≤ (k : Int) := by omega
      have k1 : (k : Int) < (t.ds.length : Int) := by omega
      have wk : IntKind.i64.wrap ((k : Int) + 1) = (k : Int) + 1 := Go.IntWalk.i64_in _ (by omega)
      obtain ⟨b, off, ead, cY⟩ := TabX.range (S9.out.g 0 rfl) k hlt
      subst ead
      have HN := Lib.hid (cnt_next t.ds h hlt)
      have hn1 := cnt_le t.ds h k
      obtain ⟨n, hn⟩ : ∃ n, n = cntP t.ds h k := ⟨_, rfl⟩
      rw [← hn] at HN hn1 ⊢
      clear hn
      have wn : IntKind.i64.wrap ((n : Int) + 1) = (n : Int) + 1 := Go.IntWalk.i64_in _ (by omega)
      have HMk := Lib.hid (HM.out k hlt)
      obtain ⟨y, hy⟩ : ∃ y, y = t.ds[k] := ⟨_, rfl⟩
      rw [← hy] at cY HN HMk
      clear hy
      go_upto_region 5 with (first | (refine wpList_load_mid rfl 44 _ rfl _ (off + k * 6) rfl _ _ cY Try.underlying44 rfl (by kernel_rfl) ?_) | (refine wpList_fresh1 ?_; intro W10 hb hn hs; have S10 := Lib.hid (S9.out.new1 hb hn); have h_x := S10.out.at 1 rfl; clear hb hn hs) | (refine wpList_store_row rfl 44 _ _ rfl _ rfl rfl h_x rfl (by kernel_rfl) rfl ?_; intro W11 hb hg hs hn; have S11 := Lib.hid (S10.out.set 1 rfl hb hg hs hn); clear hb hg hs hn))
      clear cY
      clear h_x
      have h_x := (S11.out.at 1 rfl)
      go_wp2_with (first | (refine wpList_load_row rfl 44 _ rfl _ rfl 44 _ (0, 0) _ h_x Try.underlying44 rfl (by kernel_rfl) ?_) | (refine wpList_load_rowG rfl 44 _ rfl _ rfl 44 _ (0, 0) _ h_x Try.underlying44 rfl (by kernel_rfl) ?_))
      refine (popen1_c y _).mono ?_
      rintro e W12 ⟨rfl, hb⟩
      clear h_x
      have S12 := Lib.hid (S11.out.call hb)
      clear hb
      by_cases h1 : 0 < y.refs
      · have i1 : decide (0 < y.refs) = true := decide_eq_true h1
        clear h1
        have h_x := (S12.out.at 1 rfl)
        go_wp2_with (first | (refine wpList_load_row rfl 44 _ rfl _ rfl 44 _ (0, 0) _ h_x Try.underlying44 rfl (by kernel_rfl) ?_) | (refine wpList_load_rowG rfl 44 _ rfl _ rfl 44 _ (0, 0) _ h_x Try.underlying44 rfl (by kernel_rfl) ?_))
        refine (HMk.out _ S12.out.bel).mono ?_
        rintro e W13 ⟨rfl, hb⟩
        clear h_x
        have S13 := Lib.hid (S12.out.call hb)
        clear hb
        obtain ⟨c, hc⟩ : ∃ c, c = h k y := ⟨_, rfl⟩
        rw [← hc] at HN ⊢
        clear hc
        cases c with
        | true =>
          have HC : Hid (cntP t.ds h (k + 1) = n + 1) := Lib.hid (by rw [HN.out, i1]; rfl)
          go_wp2_with fail
          go_roundw
          case rel => exact ⟨k + 1, by rw [HC.out]; go_num, by go_num, hlt, Lib.hid (S13.out.leave (by simp))⟩
          case measure => simp [RowKit.intOf]; omega
        | false =>
          have HC : Hid (cntP t.ds h (k + 1) = n) := Lib.hid (by rw [HN.out, i1]; rfl)
          go_wp2_with fail
          go_roundw
          case rel => exact ⟨k + 1, by rw [HC.out], by go_num, hlt, Lib.hid (S13.out.leave (by simp))⟩
          case measure => simp [RowKit.intOf]; omega
      · have i1 : decide (0 < y.refs) = false := decide_eq_false h1
        clear h1
        have HC : Hid (cntP t.ds h (k + 1) = n) := Lib.hid (by rw [HN.out, i1]; rfl)
        go_wp2_with fail
        go_roundw
        case rel => exact ⟨k + 1, by rw [HC.out], by go_num, hlt, Lib.hid (S12.out.leave (by simp))⟩
        case measure => simp [RowKit.intOf]; omega
    · have iL1 : decide (k < t.ds.length) = false := decide_eq_false (by omega)
      have iM1 : decide ((k : Int) < (t.ds.length : Int)) = false := decide_eq_false (by omega)
      have hke : k = t.ds.length := by omega
      subst hke
      clear hlt
      go_wp2_with fail
      go_ret
      exact ⟨rfl, S9.out.bel⟩
set_option maxRecDepth 100000 in
set_option maxHeartbeats 4000000 in
theorem phav_c {X : Nat → Prop} (t : TabL) (ad af : Option Addr) (cap capf : Nat) (w : World) (hT : TabX t (.slice ad t.ds.length cap) (.slice af t.fs.length capf) X w) (ino lock : Int) (pT pN : Nat) (hz : SizeT t) (hP : w.heap[pT]? = some (.cells #[.slice ad t.ds.length cap, .slice af t.fs.length capf] 25 (0, 0))) (hN : w.cell? ⟨pN, 0, none⟩ = some (.int .i64 ino)) :
    Calls Try.prog 27 #[.int .i64 lock, .pointer (some ⟨pT, 0, none⟩), .pointer (some ⟨pN, 0, none⟩)] w fun e w' => e = .returned (.int .i64 (heldN t.ds ino lock)) ∧ Below w.heap.size w w' := by
  have S0 := Lib.hid (Sf.start (w := w) (X := fun _ => False) (G := [TabX t (.slice ad t.ds.length cap) (.slice af t.fs.length capf)]) (fun _ h => h.elim) (th1 (TabX.firm _ _ _) ((TabX.firm _ _ _).sub hT fun _ h => h.elim)))
  have hmf : ∀ (fn : Fn) (first cap : Array Value) (w : World), (Instr.makeFunc fn first cap).run Try.prog w = .ok (.func fn first cap) w := fun _ _ _ _ => rfl
  have HZ := Lib.hid hz
  clear hT hz
  go_enter Try.func27, Try.ntmps27
  go_upto_region 1 with (fail)
  refine code_fresh1 ?_
  intro W1 hb hA0 hs
  have cN := Lib.Below.cellOf hb hN (Nat.le_refl _)
  have h_t := (hb.block _ (Array.getElem?_eq_some_iff.1 hP).1).trans hP
  have S1 := Lib.hid (S0.out.new1 hb hA0)
  clear hb hA0 hs hN hP
  go_wp2_with (first | (refine wpList_load_row rfl 25 _ rfl _ rfl 25 _ (0, 0) _ h_t Try.underlying25 rfl (by kernel_rfl) ?_))
  have HL := Lib.hid (one_cell (S1.out.at 0 rfl))
  refine (pcount_h t _ _ _ _ W1 (S1.out.g 0 rfl) pN w.heap.size (hasB ino lock) HZ.out (fun k hk W hb => phas1_c k t.ds[k] ino lock pN w.heap.size W (Lib.Below.cellOf hb cN (Nat.le_refl _)) (Lib.Below.cellOf hb HL.out (Nat.le_refl _)))).mono ?_
  rintro e W2 ⟨rfl, hb⟩
  have S2 := Lib.hid (S1.out.call hb)
  clear hb
  clear cN h_t
  go_wp2_with fail
  go_ret
  exact ⟨by rw [← cnt_has]; rfl, S2.out.bel⟩
set_option maxRecDepth 100000 in
set_option maxHeartbeats 4000000 in
theorem pholders_c {X : Nat → Prop} (t : TabL) (ad af : Option Addr) (cap capf : Nat) (w : World) (hT : TabX t (.slice ad t.ds.length cap) (.slice af t.fs.length capf) X w) (ino : Int) (hz : SizeT t) :
    Calls Try.prog 14 #[tabV ad t.ds.length cap af t.fs.length capf, .int .i64 ino] w fun e w' => e = .returned (.tuple #[.int .i64 (heldN t.ds ino 1), .int .i64 (heldN t.ds ino 2)]) ∧ Below w.heap.size w w' := by
  have S0 := Lib.hid (Sf.start (w := w) (X := fun _ => False) (G := [TabX t (.slice ad t.ds.length cap) (.slice af t.fs.length capf)]) (fun _ h => h.elim) (th1 (TabX.firm _ _ _) ((TabX.firm _ _ _).sub hT fun _ h => h.elim)))
  have hmf : ∀ (fn : Fn) (first cap : Array Value) (w : World), (Instr.makeFunc fn first cap).run Try.prog w = .ok (.func fn first cap) w := fun _ _ _ _ => rfl
  have HZ := Lib.hid hz
  clear hT hz
  go_enter Try.func14, Try.ntmps14
  go_upto_region 1 with (fail)
  refine code_fresh2 ?_
  intro W1 hb hA0 hA1 hs
  have S1 := Lib.hid (S0.out.new2 hb hA0 hA1)
  clear hb hA0 hA1 hs
  go_wp2_with fail
  refine (phav_c t _ _ _ _ W1 (S1.out.g 0 rfl) ino 1 w.heap.size (w.heap.size + 1) HZ.out (S1.out.at 0 rfl) (one_cell (S1.out.at 1 rfl))).mono ?_
  rintro e W2 ⟨rfl, hb⟩
  have S2 := Lib.hid (S1.out.call hb)
  clear hb
  go_wp2_with fail
  refine (phav_c t _ _ _ _ W2 (S2.out.g 0 rfl) ino 2 w.heap.size (w.heap.size + 1) HZ.out (S2.out.at 0 rfl) (one_cell (S2.out.at 1 rfl))).mono ?_
  rintro e W3 ⟨rfl, hb⟩
  have S3 := Lib.hid (S2.out.call hb)
  clear hb
  go_wp2_with fail
  go_ret2
  exact ⟨rfl, S3.out.bel⟩
end Go.Proofs.Ytfcjmcenaankfaa
