/-
  The program's within, free, stored, has, Used, Bytes; the document's weight, Used, Bytes; what is too much to look at.
-/
import Derived.Test.YthpcldmhamjnbaaDskMem
namespace Go.Proofs.Ythpcldmhamjnbaa
open Go.RowKit Go.Shelf
attribute [local go_sem ↓] Go.wp_at_zero Go.wp_at_succ

def withinB (n a b : Int) : Bool := decide (a ≤ n) && decide (n ≤ b)
set_option maxRecDepth 100000 in
theorem within_any (n a b : Int) (w : World) : Calls Try.prog 45 #[.int .i64 n, .int .i64 a, .int .i64 b] w fun e w' => e = .returned (.bool (withinB n a b)) ∧ w = w' := by
  unfold withinB
  by_cases h1 : a ≤ n
  · have hI : decide (a ≤ n) = true := by simpa using h1
    clear h1
    go_enter Try.func45, Try.ntmps45
    go_wp2_with fail
    go_ret
    exact ⟨ret_bool (by rw [hI]; rfl), rfl⟩
  · have hI : decide (a ≤ n) = false := by simpa using h1
    go_enter Try.func45, Try.ntmps45
    go_wp2_with fail
    go_ret
    exact ⟨ret_bool (by simp), rfl⟩
set_option maxRecDepth 100000 in
theorem free_any (n : NodeL) (v : Value) (w : World) : Calls Try.prog 41 #[nval n v] w fun e w' => e = .returned (.bool (decide (n.kind = 0))) ∧ Below w.heap.size w w' := by
  go_enter Try.func41, Try.ntmps41
  go_wp2_with fail
  go_ret
  exact ⟨ret_bool rfl, (Below.refl _ w).alloc (Nat.le_refl _) _⟩
set_option maxRecDepth 100000 in
theorem stored_any (n : NodeL) (v : Value) (w : World) : Calls Try.prog 43 #[nval n v] w fun e w' => e = .returned (.int .i64 (weightL n)) ∧ Below w.heap.size w w' := by
  by_cases h1 : n.kind = 1
  · have hI : (n.kind == 1) = true := by simpa using h1
    have HW : Hid (weightL n = n.data.length) := Lib.hid (by simp [weightL, h1])
    clear h1
    go_enter Try.func43, Try.ntmps43
    go_wp2_with fail
    go_ret
    exact ⟨ret_int (by rw [HW.out]), (Below.refl _ w).alloc (Nat.le_refl _) _⟩
  have hI : (n.kind == 1) = false := by simpa using h1
  by_cases h3 : n.kind = 3
  · have hJ : (n.kind == 3) = true := by simpa using h3
    have HW : Hid (weightL n = n.data.length) := Lib.hid (by simp [weightL, h3])
    clear h1 h3
    go_enter Try.func43, Try.ntmps43
    go_wp2_with fail
    go_ret
    exact ⟨ret_int (by rw [HW.out]), (Below.refl _ w).alloc (Nat.le_refl _) _⟩
  · have hJ : (n.kind == 3) = false := by simpa using h3
    have HW : Hid (weightL n = 0) := Lib.hid (by simp [weightL, h1, h3])
    clear h1 h3
    go_enter Try.func43, Try.ntmps43
    go_wp2_with fail
    go_ret
    exact ⟨ret_int (by rw [HW.out]; rfl), (Below.refl _ w).alloc (Nat.le_refl _) _⟩
set_option maxRecDepth 100000 in
theorem weight_any (n : NodeL) (v : Value) (w : World) : Calls Try.prog 34 #[nval n v] w fun e w' => e = .returned (.int .i64 (weightL n)) ∧ Below w.heap.size w w' := by
  by_cases h1 : n.kind = 1
  · have hI : (n.kind == 1) = true := by simpa using h1
    have HW : Hid (weightL n = n.data.length) := Lib.hid (by simp [weightL, h1])
    clear h1
    go_enter Try.func34, Try.ntmps34
    go_wp2_with fail
    go_ret
    exact ⟨ret_int (by rw [HW.out]), (Below.refl _ w).alloc (Nat.le_refl _) _⟩
  have hI : (n.kind == 1) = false := by simpa using h1
  by_cases h3 : n.kind = 3
  · have hJ : (n.kind == 3) = true := by simpa using h3
    have HW : Hid (weightL n = n.data.length) := Lib.hid (by simp [weightL, h3])
    clear h1 h3
    go_enter Try.func34, Try.ntmps34
    go_wp2_with fail
    go_ret
    exact ⟨ret_int (by rw [HW.out]), (Below.refl _ w).alloc (Nat.le_refl _) _⟩
  · have hJ : (n.kind == 3) = false := by simpa using h3
    have HW : Hid (weightL n = 0) := Lib.hid (by simp [weightL, h1, h3])
    clear h1 h3
    go_enter Try.func34, Try.ntmps34
    go_wp2_with fail
    go_ret
    exact ⟨ret_int (by rw [HW.out]; rfl), (Below.refl _ w).alloc (Nat.le_refl _) _⟩
theorem within_in (l : List NodeL) (j : Int) (k : Nat) (h : k = l.length) : withinB j 0 ((k : Int) - 1) = inL l j := by
  subst h
  unfold withinB inL
  congr 1
  rw [Bool.eq_iff_iff, decide_eq_true_iff, decide_eq_true_iff]
  omega
set_option maxRecDepth 100000 in
theorem has_any (l : List NodeL) (ao : Option Addr) (n cap : Nat) (most room j : Int) (w : World) (hn : n = l.length) (hl : n ≤ 65000) : Calls Try.prog 40 #[.agg #[.slice ao n cap, .int .i64 most, .int .i64 room], .int .i64 j] w fun e w' => e = .returned (.bool (inL l j)) ∧ Below w.heap.size w w' := by
  subst hn
  have HI := Lib.hid (within_in l j _ rfl)
  go_enter Try.func40, Try.ntmps40
  go_wp2_with fail
  refine (within_any _ _ _ _).mono ?_
  rintro e w1 ⟨rfl, rfl⟩
  go_wp2_with fail
  go_ret
  exact ⟨ret_bool HI.out, (Below.refl _ w).alloc (Nat.le_refl _) _⟩
theorem bytes_at {ms : List NodeM} (hs : Small (pl ms)) (k : Nat) (h : k < ms.length) : bytesL ((pl ms).take k) ≤ 220000 ∧ bytesL ((pl ms).take (k + 1)) = bytesL ((pl ms).take k) + weightL ((pl ms)[k]'(by rw [pl_len]; exact h)) ∧ weightL ((pl ms)[k]'(by rw [pl_len]; exact h)) ≤ 2000 :=
  ⟨bytes_take_le hs k, bytes_succ (pl ms) k (by rw [pl_len]; exact h), weight_le (hs.2 _ (List.getElem_mem _))⟩
set_option maxRecDepth 100000 in
set_option maxHeartbeats 1000000 in
theorem bytes_any (v : Value) (ms : List NodeM) (most room : Int) (w : World) (hv : RdM w.heap.size v ms w) (hsm : Small (pl ms)) :
    Calls Try.prog 36 #[.agg #[v, .int .i64 most, .int .i64 room]] w fun e w' => e = .returned (.int .i64 (bytesL (pl ms))) ∧ Below w.heap.size w w' := by
  obtain ⟨ao, cap, rfl, _, _⟩ := rdm_form hv
  have hl : ms.length ≤ 110 := by have := hsm.1; rwa [pl_len] at this
  have HS := Lib.hid hsm
  have HV := Lib.hid hv
  clear hv hsm
  go_enter Try.func36, Try.ntmps36
  go_wp2_with fail
  have hb0 : Below w.heap.size w (w.alloc (.cells #[.slice ao ms.length cap, .int .i64 most, .int .i64 room] 24)) := (Below.refl _ w).alloc (Nat.le_refl _) _
  generalize w.alloc (.cells #[.slice ao ms.length cap, .int .i64 most, .int .i64 room] 24) = W0 at *
  go_loopw [3, 9] (fun z i wr => ∃ k : Nat, i = .int .i64 k ∧ k ≤ ms.length ∧ z = .int .i64 (bytesL ((pl ms).take k)) ∧ Below w.heap.size w wr) (fun _ i _ => ms.length - (intOf i).toNat)
  case atStart => exact ⟨0, rfl, Nat.zero_le _, rfl, hb0⟩
  case round =>
    obtain ⟨k, rfl, hk, rfl, hBr⟩ := hrel
    have sB := hBr.size
    by_cases hlt : k < ms.length
    · obtain ⟨b, off, n, aon, capn, rfl, hb, hn, -, -, c0, c1, c2, c3, c4, c5, c6, c7⟩ := node_at (HV.out.below hBr) k hlt
      obtain ⟨hle, hs, hw⟩ := bytes_at HS.out k hlt
      rw [hn] at hs hw
      have HQ := Lib.hid hs
      clear hs hn
      generalize bytesL ((pl ms).take k) = z at *
      go_wp2_with fail
      refine (stored_any n _ _).mono ?_
      rintro e w1 ⟨rfl, hb2⟩
      have hb3 := bel_al hBr hb2
      go_wp2_with fail
      go_roundw
      case rel => exact ⟨k + 1, by go_num, hlt, by rw [HQ.out]; go_num, hb3⟩
      case measure => simp [intOf]; omega
    · have hke : k = ms.length := by omega
      have HT : Hid ((pl ms).take k = pl ms) := Lib.hid (by rw [hke, ← pl_len, List.take_length])
      have hI2 : decide (k < ms.length) = false := by simp; omega
      clear hke hlt
      go_wp2_with fail
      go_ret
      exact ⟨ret_int (by rw [HT.out]), hBr⟩
set_option maxRecDepth 100000 in
set_option maxHeartbeats 1000000 in
theorem rbytes_any (v : Value) (ms : List NodeM) (most room : Int) (w : World) (hv : RdM w.heap.size v ms w) (hsm : Small (pl ms)) :
    Calls Try.prog 21 #[.agg #[v, .int .i64 most, .int .i64 room]] w fun e w' => e = .returned (.int .i64 (bytesL (pl ms))) ∧ Below w.heap.size w w' := by
  obtain ⟨ao, cap, rfl, _, _⟩ := rdm_form hv
  have hl : ms.length ≤ 110 := by have := hsm.1; rwa [pl_len] at this
  have HS := Lib.hid hsm
  have HV := Lib.hid hv
  clear hv hsm
  go_enter Try.func21, Try.ntmps21
  go_wp2_with fail
  have hb0 : Below w.heap.size w (w.alloc (.cells #[.slice ao ms.length cap, .int .i64 most, .int .i64 room] 33)) := (Below.refl _ w).alloc (Nat.le_refl _) _
  have hbF := heap_alloc_new w (.cells #[.slice ao ms.length cap, .int .i64 most, .int .i64 room] 33)
  have hsz : w.heap.size < (w.alloc (.cells #[.slice ao ms.length cap, .int .i64 most, .int .i64 room] 33)).heap.size := by simp
  generalize w.alloc (.cells #[.slice ao ms.length cap, .int .i64 most, .int .i64 room] 33) = W0 at *
  go_loopw [3, 4] (fun z i wr => ∃ k : Nat, i = .int .i64 k ∧ k ≤ ms.length ∧ z = .int .i64 (bytesL ((pl ms).take k)) ∧ Below W0.heap.size W0 wr) (fun _ i _ => ms.length - (intOf i).toNat)
  case atStart => exact ⟨0, rfl, Nat.zero_le _, rfl, Below.refl _ _⟩
  case round =>
    obtain ⟨k, rfl, hk, rfl, hBr⟩ := hrel
    have sB := hBr.size
    have d0 : wr.cell? ⟨w.heap.size, 0, none⟩ = some (.slice ao ms.length cap) := by rw [Lib.cell_of_heap ((hBr.block _ hsz).trans hbF)]; rfl
    have hBw : Below w.heap.size w wr := hb0.trans (hBr.mono (by omega))
    by_cases hlt : k < ms.length
    · obtain ⟨b, off, n, aon, capn, rfl, hb, hn, -, -, c0, c1, c2, c3, c4, c5, c6, c7⟩ := node_at (HV.out.below hBw) k hlt
      obtain ⟨hle, hs, hw⟩ := bytes_at HS.out k hlt
      rw [hn] at hs hw
      have HQ := Lib.hid hs
      clear hs hn
      generalize bytesL ((pl ms).take k) = z at *
      go_wp2_with fail
      refine (weight_any n _ _).mono ?_
      rintro e w1 ⟨rfl, hb2⟩
      have hb3 := ret_tr hBr hb2
      go_wp2_with fail
      go_roundw
      case rel => exact ⟨k + 1, by go_num, hlt, by rw [HQ.out]; go_num, hb3⟩
      case measure => simp [intOf]; omega
    · have hke : k = ms.length := by omega
      have HT : Hid ((pl ms).take k = pl ms) := Lib.hid (by rw [hke, ← pl_len, List.take_length])
      have hI2 : decide (k < ms.length) = false := by simp; omega
      clear hke hlt
      go_wp2_with fail
      go_ret
      exact ⟨ret_int (by rw [HT.out]), hBw⟩
/-- Is it too much to look at? -/
def bigL (l : List NodeL) : Bool := l.any (fun n => decide (2000 < n.data.length) || decide (60 < n.names.length)) || decide (100 < l.length)
theorem small_of {l : List NodeL} (h : bigL l = false) : Small l := by
  unfold bigL at h
  rw [Bool.or_eq_false_iff, List.any_eq_false, decide_eq_false_iff_not] at h
  refine ⟨by omega, fun n hn => ?_⟩
  have := h.1 n hn
  simp only [Bool.or_eq_true, decide_eq_true_iff] at this
  exact ⟨by omega, by omega⟩
def NoBig (l : List NodeL) (k : Nat) : Prop := (l.take k).any (fun n => decide (2000 < n.data.length) || decide (60 < n.names.length)) = false
theorem nobig_succ {l : List NodeL} {k : Nat} (h : NoBig l k) (hk : k < l.length) (h1 : l[k].data.length ≤ 2000) (h2 : l[k].names.length ≤ 60) : NoBig l (k + 1) := by
  unfold NoBig at h ⊢
  rw [List.take_succ_eq_append_getElem hk, List.any_append, h]
  simp
  omega
theorem big_yes {l : List NodeL} {k : Nat} (hk : k < l.length) (h : 2000 < l[k].data.length ∨ 60 < l[k].names.length) : bigL l = true := by
  unfold bigL
  rw [Bool.or_eq_true]
  refine .inl (List.any_eq_true.2 ⟨l[k], List.getElem_mem hk, ?_⟩)
  simpa using h
theorem big_end {l : List NodeL} {k : Nat} (h : NoBig l k) (hk : k = l.length ∨ 110 ≤ k ∧ k ≤ l.length) : bigL l = decide (100 < l.length) := by
  unfold bigL
  rcases hk with hk | hk
  · unfold NoBig at h
    rw [hk, List.take_length] at h
    rw [h]
    rfl
  · have : decide (100 < l.length) = true := by simp; omega
    rw [this, Bool.or_true]
end Go.Proofs.Ythpcldmhamjnbaa
