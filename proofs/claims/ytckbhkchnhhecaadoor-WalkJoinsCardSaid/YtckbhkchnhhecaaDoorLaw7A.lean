/-
  What the statements on ways have in common: whether a disk is right; spots are compared; the example.
-/
import Derived.Test.YtckbhkchnhhecaaDoorWalkG
import Derived.Test.YtckbhkchnhhecaaDoorDskN
import Derived.Test.YtckbhkchnhhecaaDoorDskB
namespace Go.Proofs.YtckbhkchnhhecaaDoor
open Go.RowKit Go.Shelf
attribute [local go_sem ↓] Go.wp_at_zero Go.wp_at_succ

theorem eqSpot (x y : SpotL) (w : World) : (Op.equalIn 10000 28 (spotV x) (spotV y)).run Tryd.prog w = .ok (decide (x = y)) w := by
  have u3 := Tryd.underlying3
  have u4 := Tryd.underlying4
  have u9 := Tryd.underlying9
  have a3 := Tryd.isAgg3
  have a4 := Tryd.isAgg4
  have a9 := Tryd.isAgg9
  have hS : Tryd.prog.underlying 28 = some (.struct (Tryd.prog.fieldsOf 28)) := by kernel_rfl
  rw [show (10000 : Nat) = 9998 + 1 + 1 from rfl, run_equalIn_agg w (9998 + 1) 28 _ _ hS (by kernel_rfl)]
  simp only [Program.fieldsOf, Tryd.underlying28]
  go_simp
  obtain ⟨x1, x2, x3, x4⟩ := x
  obtain ⟨y1, y2, y3, y4⟩ := y
  by_cases h1 : x1 = y1 <;> by_cases h2 : x2 = y2 <;> by_cases h3 : x3 = y3 <;> by_cases h4 : x4 = y4 <;> simp [h1, h2, h3, h4]
theorem spotGuard : Tryd.prog.eqGuardType Tryd.prog.depth 28 = false := by kernel_rfl

/-- Is a disk right, and not too much to look at? -/
def smallB (l : List NodeL) : Bool := decide (l.length ≤ 100) && l.all fun n => decide (n.data.length ≤ 300) && decide (n.names.length ≤ 60)
def rightQ (l : List NodeL) (most room : Int) : Bool := smallB l && rightR l most room
theorem small_B {l : List NodeL} (h : smallB l = true) : Small l := by
  unfold smallB at h
  simp only [Bool.and_eq_true, decide_eq_true_iff, List.all_eq_true] at h
  exact ⟨h.1, fun n hn => h.2 n hn⟩
def TinyTo (l : List NodeL) (k : Nat) : Prop := (l.take k).all (fun n => decide (n.data.length ≤ 300) && decide (n.names.length ≤ 60)) = true
theorem tiny_succ {l : List NodeL} {k : Nat} (h : TinyTo l k) (hk : k < l.length) (h1 : l[k].data.length ≤ 300) (h2 : l[k].names.length ≤ 60) : TinyTo l (k + 1) := by
  unfold TinyTo at h ⊢
  rw [List.take_succ_eq_append_getElem hk, List.all_append, h]
  simp [h1, h2]
theorem tiny_bad {l : List NodeL} {k : Nat} (hk : k < l.length) (h : 300 < l[k].data.length ∨ 60 < l[k].names.length) : smallB l = false := by
  unfold smallB
  rw [Bool.and_eq_false_iff]
  refine .inr ?_
  rw [List.all_eq_false]
  refine ⟨l[k], List.getElem_mem hk, ?_⟩
  simp only [Bool.and_eq_true, decide_eq_true_iff]
  omega
theorem tiny_end {l : List NodeL} (h : TinyTo l l.length) (hl : l.length ≤ 100) : smallB l = true := by
  unfold TinyTo at h
  rw [List.take_length] at h
  unfold smallB
  rw [h, decide_eq_true hl]
  rfl
theorem much_bad {l : List NodeL} (hl : 100 < l.length) : smallB l = false := by
  unfold smallB
  rw [decide_eq_false (by omega)]
  rfl
theorem small_len {ms : List NodeM} (h : Small (pl ms)) : ms.length ≤ 100 := by have := h.1; rwa [pl_len] at this
theorem small_names {l : List NodeL} (h : Small l) : ∀ n ∈ l, n.names.length ≤ 10000 := fun n hn => by have := (h.2 n hn).2; omega
theorem small_data {l : List NodeL} (h : Small l) : ∀ n ∈ l, n.data.length ≤ 10000 := fun n hn => by have := (h.2 n hn).1; omega
theorem diskW {ms : List NodeM} {most room : Int} (h : rightQ (pl ms) most room = true) : DskW ms := by
  unfold rightQ at h
  rw [Bool.and_eq_true] at h
  have hs := small_B h.1
  exact ⟨⟨Nat.le_trans (small_len hs) (by decide), small_names hs, ⟨most, room, h.2⟩⟩, small_data hs⟩
set_option maxRecDepth 100000 in
set_option maxHeartbeats 4000000 in
theorem right_q (v : Value) (ms : List NodeM) (most room : Int) (w : World) (hv : RdM w.heap.size v ms w) (hfit : FitD (pl ms)) :
    Calls Tryd.prog 10 #[.agg #[v, .int .i64 most, .int .i64 room]] w fun e w' => e = .returned (.bool (rightQ (pl ms) most room)) ∧ Below w.heap.size w w' := by
  obtain ⟨ao, cap, rfl, _, _⟩ := rdm_form hv
  have hb0 : Below w.heap.size w (w.alloc (.cells #[.slice ao ms.length cap, .int .i64 most, .int .i64 room] 24)) := (Below.refl _ w).alloc (Nat.le_refl _) _
  have HV := Lib.hid (hv.below hb0)
  have HV0 := Lib.hid hv
  have HFit := Lib.hid hfit
  clear hv hfit
  go_enter Tryd.func10, Tryd.ntmps10
  go_wp2_with fail
  go_loop [3] (fun i => ∃ k : Nat, i = .int .i64 k ∧ k ≤ ms.length ∧ k ≤ 110 ∧ Hid (TinyTo (pl ms) k)) (fun i => ms.length - (intOf i).toNat)
  case atStart => exact ⟨0, rfl, Nat.zero_le _, by decide, Lib.hid rfl⟩
  case round =>
    obtain ⟨k, rfl, hk, hk2, hN⟩ := hrel
    by_cases hlt : k < ms.length ∧ k < 110
    · obtain ⟨hlt, h110⟩ := hlt
      obtain ⟨b, off, n, aon, capn, rfl, hb, hn, -, -, c0, c1, c2, c3, c4, c5, c6, c7⟩ := node_at HV.out k hlt
      have hI : decide (k < ms.length) = true := by simpa using hlt
      have hI2 : decide ((k : Int) < 110) = true := by simp; omega
      by_cases hd : 300 < n.data.length
      · have hJ : decide ((300 : Int) < (n.data.length : Int)) = true := by simp; omega
        have HB : Hid (rightQ (pl ms) most room = false) := Lib.hid (by unfold rightQ; rw [tiny_bad (l := pl ms) (k := k) (by rw [pl_len]; exact hlt) (by rw [hn]; exact .inl hd)]; rfl)
        clear hn hd
        go_wp2_with fail
        go_ret
        exact ⟨ret_bool HB.out.symm, hb0⟩
      · have hJ : decide ((300 : Int) < (n.data.length : Int)) = false := by simp; omega
        by_cases hm : 60 < n.names.length
        · have hJ2 : decide ((60 : Int) < (n.names.length : Int)) = true := by simp; omega
          have HB : Hid (rightQ (pl ms) most room = false) := Lib.hid (by unfold rightQ; rw [tiny_bad (l := pl ms) (k := k) (by rw [pl_len]; exact hlt) (by rw [hn]; exact .inr hm)]; rfl)
          clear hn hd hm
          go_wp2_with fail
          go_ret
          exact ⟨ret_bool HB.out.symm, hb0⟩
        · have hJ2 : decide ((60 : Int) < (n.names.length : Int)) = false := by simp; omega
          have HN := Lib.hid (tiny_succ hN.out (by rw [pl_len]; exact hlt) (by rw [hn]; omega) (by rw [hn]; omega))
          clear hn hd hm
          go_wp2_with fail
          go_round
          case rel => exact ⟨k + 1, by go_num, hlt, h110, HN⟩
          case measure => simp [intOf]; omega
    · by_cases hbig : 100 < ms.length
      · have HB : Hid (rightQ (pl ms) most room = false) := Lib.hid (by unfold rightQ; rw [much_bad (by rw [pl_len]; exact hbig)]; rfl)
        have hg : decide ((ms.length : Int) ≤ 100) = false := decide_eq_false (by omega)
        have hx : (decide (k < ms.length) = false) ∨ (decide (k < ms.length) = true ∧ decide ((k : Int) < 110) = false) := by
          by_cases h : k < ms.length
          · exact .inr ⟨by simpa using h, decide_eq_false (by omega)⟩
          · exact .inl (by simpa using h)
        clear hlt hbig
        rcases hx with hI | ⟨hI, hI2⟩
        · go_wp2_with fail
          go_ret
          exact ⟨ret_bool HB.out.symm, hb0⟩
        · go_wp2_with fail
          go_ret
          exact ⟨ret_bool HB.out.symm, hb0⟩
      · have hke : k = ms.length := by omega
        have hsm : smallB (pl ms) = true := tiny_end (by have := hN.out; rwa [hke, ← pl_len] at this) (by rw [pl_len]; omega)
        have HSm := Lib.hid (small_B hsm)
        have HE : Hid (rightQ (pl ms) most room = rightR (pl ms) most room) := Lib.hid (by unfold rightQ; rw [hsm]; rfl)
        have hg : decide ((ms.length : Int) ≤ 100) = true := decide_eq_true (by omega)
        have hI2 : decide (k < ms.length) = false := decide_eq_false (by omega)
        have hl : ms.length ≤ 10000 := by omega
        clear hlt hke hsm
        go_wp2_with fail
        refine calls_fresh1 ?_
        intro W0 hb1 hP hs1
        refine (its_any (.slice ao ms.length cap) ms most room W0 (rdm_keep HV0.out hb1) hl (small_names HSm.out)).mono ?_
        rintro e W2 ⟨v2, rfl, ⟨m2, hm2, hr2⟩, hb2⟩
        have hB2 := ret_tr hb1 hb2
        have hrr := rright_any v2 m2 most room W2 hr2 (by rw [hm2]; exact HSm.out) (by rw [hm2]; exact HFit.out)
        rw [hm2, ← HE.out] at hrr
        have HRR := Lib.hid hrr
        clear hrr hr2 hm2 hb1 hb2 hP
        go_wp2_with fail
        refine HRR.out.mono ?_
        rintro e W3 ⟨rfl, hb3⟩
        go_wp2_with fail
        go_ret
        exact ⟨rfl, ret_tr hB2 hb3⟩
/-- Its contract, of whatever reads as these nodes. -/
theorem its_g (l : List NodeL) (a b : Int) (hl : l.length ≤ 10000) (hnl : ∀ n ∈ l, n.names.length ≤ 10000) (v : Value) (W : World) (hg : GivesN l v W) :
    Calls Tryd.prog 14 #[.agg #[v, .int .i64 a, .int .i64 b]] W fun e w' => ∃ v', e = .returned (.agg #[v', .int .i64 a, .int .i64 b]) ∧ GivesN l v' w' ∧ Below W.heap.size W w' := by
  obtain ⟨m, rfl, h⟩ := hg
  exact its_any v m a b W h (by rw [← pl_len]; exact hl) hnl
end Go.Proofs.YtckbhkchnhhecaaDoor
