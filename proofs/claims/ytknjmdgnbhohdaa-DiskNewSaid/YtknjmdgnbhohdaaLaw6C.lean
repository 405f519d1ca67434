/-
  The walk of DiskNew.
-/
import Derived.Test.YtknjmdgnbhohdaaLaw6B
import Derived.Test.YtknjmdgnbhohdaaArgs
namespace Go.Proofs.Ytknjmdgnbhohdaa
open Go.RowKit Go.Shelf
attribute [local go_sem ↓] Go.wp_at_zero Go.wp_at_succ

abbrev nodeD (dt : Nm) : NodeL := ⟨1, 0, 0, 0, 0, 0, dt, []⟩
def lD (dt : Nm) (f : Nat) : List NodeL := rootN 63 :: List.replicate f (nodeD dt)
theorem lD_len (dt : Nm) (f : Nat) : (lD dt f).length = f + 1 := by simp [lD]
theorem lD_succ (dt : Nm) (f : Nat) : lD dt f ++ [nodeD dt] = lD dt (f + 1) := by
  unfold lD
  rw [List.cons_append, ← List.replicate_succ']
theorem lD_used (dt : Nm) (f : Nat) : usedL (lD dt f) = f + 1 := by
  unfold usedL lD
  rw [List.countP_cons, List.countP_replicate]
  simp [rootN]
theorem lD_bytes (dt : Nm) (f : Nat) : bytesL (lD dt f) = f * dt.length := by
  unfold bytesL lD
  rw [List.map_cons, List.map_replicate, List.sum_cons]
  simp [weightL, rootN]
theorem lD_kind (dt : Nm) (f : Nat) : ∀ n ∈ lD dt f, n.kind ≠ 0 := by
  intro n hn
  unfold lD at hn
  rcases List.mem_cons.1 hn with rfl | hn
  · decide
  · rw [List.eq_of_mem_replicate hn]
    show (1 : Int) ≠ 0
    decide
theorem lD_idx (dt : Nm) (f : Nat) : idxL (lD dt f) 0 = -1 := by
  rcases idx_cases (lD dt f) 0 with ⟨h, _⟩ | ⟨j, hj, _, h, _⟩
  · exact h
  · exact absurd h (lD_kind dt f _ (List.getElem_mem hj))
theorem lD_small (dt : Nm) (f : Nat) (hf : f ≤ 30) (hd : dt.length ≤ 40) : Small (lD dt f) := by
  refine ⟨by rw [lD_len]; omega, fun n hn => ?_⟩
  unfold lD at hn
  rcases List.mem_cons.1 hn with rfl | hn
  · exact ⟨Nat.zero_le _, Nat.zero_le _⟩
  · rw [List.eq_of_mem_replicate hn]
    exact ⟨by show dt.length ≤ 300; omega, Nat.zero_le _⟩
theorem lD_fit (dt : Nm) (f : Nat) : FitD (lD dt f) := by
  intro n hn
  unfold lD at hn
  rcases List.mem_cons.1 hn with rfl | hn
  · exact fit_nil
  · rw [List.eq_of_mem_replicate hn]
    exact fit_nil
theorem lD_right (dt : Nm) (n k : Int) (hn : 1 ≤ n) (hk : 0 ≤ k) : rightR (lD dt 0) n k = true := by
  rw [rightR_eq]
  have h1 : (List.range (lD dt 0).length).all (fun i => okR (lD dt 0) i (atI (lD dt 0) i)) = true := by
    show (List.range 1).all (fun i => okR [rootN 63] i (atI [rootN 63] i)) = true
    decide
  rw [h1, Bool.and_true]
  unfold headR
  rw [lD_bytes, lD_len]
  have h2 : (atI (lD dt 0) 0).kind = 2 := rfl
  rw [h2]
  simp
  omega
theorem lD_no (dt : Nm) (f : Nat) (n k : Int) : addNo (lD dt f) n k (nodeD dt) = (decide (n ≤ (f : Int) + 1) || decide (k < (f : Int) * (dt.length : Int) + (dt.length : Int))) := by
  unfold addNo
  rw [lD_used, lD_bytes]
  have hw : weightL (nodeD dt) = dt.length := by simp [weightL]
  rw [hw]
  simp
/-- The disk of the walk, in block b; it has nothing in block g. -/
def Dn (b g : Nat) (v : Value) (n k : Int) (l : List NodeL) (W : World) : Prop := W.heap[b]? = some (.cells #[v, .int .i64 n, .int .i64 k] 24 (0, 0)) ∧ ∃ ms, pl ms = l ∧ RdM W.heap.size v ms W ∧ AvoidM g v ms
theorem Dn.lt {b g : Nat} {v : Value} {n k : Int} {l : List NodeL} {W : World} (h : Dn b g v n k l W) : b < W.heap.size := (Array.getElem?_eq_some_iff.1 h.1).1
theorem Dn.gives {b g : Nat} {v : Value} {n k : Int} {l : List NodeL} {W : World} (h : Dn b g v n k l W) : GivesN l v W := by
  obtain ⟨_, ms, h1, h2, _⟩ := h
  exact ⟨ms, h1, h2⟩
theorem Dn.keep {b g : Nat} {v : Value} {n k : Int} {l : List NodeL} {W W' : World} (h : Dn b g v n k l W) (hb : Below W.heap.size W W') : Dn b g v n k l W' := by
  have hlt := h.lt
  obtain ⟨h0, ms, h1, h2, h3⟩ := h
  exact ⟨(hb.block _ hlt).trans h0, ms, h1, rdm_keep h2 hb, h3⟩
theorem right_g (l : List NodeL) (a b : Int) (hs : Small l) (hf : FitD l) (v : Value) (W : World) (hg : GivesN l v W) :
    Calls Try.prog 18 #[.agg #[v, .int .i64 a, .int .i64 b]] W fun e w' => e = .returned (.bool (rightR l a b)) ∧ Below W.heap.size W w' := by
  obtain ⟨m, rfl, h⟩ := hg
  exact right_c v m a b W h hs hf
set_option maxRecDepth 100000 in
set_option maxHeartbeats 8000000 in
theorem new_walk (x y : Int) (s : ByteArray) (w : World) (hx : (Lit.int .u8 x).wf = true) (hy : (Lit.int .u8 y).wf = true) :
    Calls Try.prog 5 #[.int .u8 x, .int .u8 y, .string s] w fun e w' => e = .returned (.bool true) ∧ Below w.heap.size w w' := by
  obtain ⟨dt, rfl⟩ : ∃ n : Nm, s = bs n := ⟨_, bs_of s⟩
  obtain ⟨cx, rfl⟩ := u8_of hx
  obtain ⟨cy, rfl⟩ := u8_of hy
  have hcx : cx.toNat < 256 := cx.toNat_lt
  have hcy : cy.toNat < 256 := cy.toNat_lt
  generalize cx.toNat = x at *
  generalize cy.toNat = y at *
  clear hx hy
  by_cases hl : 40 < dt.length
  · have hI : decide ((40 : Int) < (dt.length : Int)) = true := by simp; omega
    go_enter Try.func5, Try.ntmps5
    go_wp2_with fail
    refine (shown_any _).mono ?_
    rintro e W2 ⟨rfl, hb2⟩
    go_wp2_with fail
    go_ret
    exact ⟨rfl, hb2⟩
  have hI : decide ((40 : Int) < (dt.length : Int)) = false := by simp; omega
  have hdl : dt.length ≤ 40 := by omega
  clear hl
  go_enter Try.func5, Try.ntmps5
  go_wp2_with fail
  have hN : (1 + (x : Int) % 20) = ((1 + x % 20 : Nat) : Int) := by omega
  have hN2 : 1 + x % 20 ≤ 20 := by omega
  have hN3 : 1 ≤ 1 + x % 20 := by omega
  simp only [hN]
  generalize 1 + x % 20 = N at *
  refine (shown_any _).mono ?_
  rintro e W0 ⟨rfl, hb0⟩
  clear hI hN
  go_wp2_with fail
  have hok : newOk N y 63 = true := (newOk_iff _ _ _).2 (by omega)
  refine (new_any N y 63 W0).mono ?_
  intro e W1 h1
  obtain ⟨v1, rfl, hd1, hb1⟩ := h1
  have e1 : newL N y 63 = lD dt 0 := by unfold newL; rw [hok]; rfl
  have e2 : newI N y 63 N = N := by unfold newI; rw [hok]; rfl
  have e3 : newI N y 63 y = y := by unfold newI; rw [hok]; rfl
  rw [e1] at hd1
  rw [e2, e3]
  have hB1 := ret_tr hb0 hb1
  clear e1 e2 e3 hb0 hb1 hok
  have hwb9 : w.heap.size ≤ W1.heap.size := hB1.size
  obtain ⟨ao1, cap1, rfl⟩ := gives_form hd1
  go_wp2_with fail
  refine fresh1 (P := fun W => Calls _ _ _ W _) ?_
  intro W2 hb2 hD2 hs2
  have HB2 := Lib.hid (ret_tr hB1 hb2)
  have HD2 : Hid (Dn W1.heap.size W1.heap.size _ N y (lD dt 0) W2) := Lib.hid (by
    obtain ⟨m1, hm1, hr1⟩ := hd1
    exact ⟨hD2, m1, hm1, rdm_keep hr1 hb2, rd_far hr1.1 (Nat.le_refl _), fun x hx => rd_far (hr1.2 x hx) (Nat.le_refl _)⟩)
  clear hB1 hb2 hD2 hd1
  have hrt := right_g (lD dt 0) N y (lD_small dt 0 (by decide) hdl) (lD_fit dt 0) _ W2 HD2.out.gives
  rw [lD_right dt N y (by omega) (by omega)] at hrt
  refine hrt.mono ?_
  rintro e W3 ⟨rfl, hb3⟩
  have HB3 := Lib.hid (ret_tr HB2.out hb3)
  have HD3 := Lib.hid (HD2.out.keep hb3)
  clear hrt hb3 HB2 HD2
  obtain ⟨p0, p1, p2⟩ := cells3 HD3.out.1
  go_wp2_with fail
  clear p0 p1 p2
  have hus := used_g (lD dt 0) N y (by rw [lD_len]; decide) _ W3 HD3.out.gives
  rw [lD_used] at hus
  refine hus.mono ?_
  rintro e W4 ⟨rfl, hb4⟩
  have HB4 := Lib.hid (ret_tr HB3.out hb4)
  have HD4 := Lib.hid (HD3.out.keep hb4)
  clear hus hb4 HB3 HD3
  obtain ⟨p0, p1, p2⟩ := cells3 HD4.out.1
  go_wp2_with fail
  clear p0 p1 p2
  have hby := bytes_g (lD dt 0) N y (lD_small dt 0 (by decide) hdl) _ W4 HD4.out.gives
  rw [lD_bytes, Nat.zero_mul] at hby
  refine hby.mono ?_
  rintro e W5 ⟨rfl, hb5⟩
  have HB5 := Lib.hid (ret_tr HB4.out hb5)
  have HD5 := Lib.hid (HD4.out.keep hb5)
  clear hby hb5 HB4 HD4
  go_wp2_with fail
  generalize Value.slice ao1 (lD dt 0).length cap1 = v1 at *
  generalize W1.heap.size = b9 at *
  have hlt9 := HD5.out.lt
  have HB5w : w.heap.size ≤ b9 := hwb9
  go_loopw [10, 11] (fun c i' wr => ∃ (f : Nat) (v : Value), c = .int .i64 f ∧ i' = .int .i64 f ∧ f + 1 ≤ N ∧ f * dt.length ≤ y ∧ Hid (Dn b9 b9 v N y (lD dt f) wr) ∧ Below w.heap.size w wr) (fun _ i' _ => 25 - (intOf i').toNat)
  case atStart => exact ⟨0, v1, rfl, rfl, hN3, by omega, HD5, HB5.out⟩
  case round =>
    obtain ⟨f, v, rfl, rfl, hfN, hfy, hD, hBr⟩ := hrel
    have hi25 : decide ((f : Int) < 25) = true := decide_eq_true (by omega)
    obtain ⟨p0, p1, p2⟩ := cells3 hD.out.1
    obtain ⟨m, hm, hr, hav⟩ := hD.out.2
    have hadd := add_anyM v m N y (nodeD dt) (.slice none 0 0) wr hr (by rw [hm]; exact lD_small dt f (by omega) hdl) (Rd.none0 _ _ _) ⟨by show dt.length ≤ 300; omega, Nat.zero_le _⟩
    have hno := lD_no dt f N y
    obtain ⟨p, hp⟩ : ∃ p, p = (f + 1) * dt.length := ⟨_, rfl⟩
    have hpe : ((f : Int) + 1) * (dt.length : Int) = (p : Int) := by rw [hp]; simp
    have hp2 : (f : Int) * (dt.length : Int) + (dt.length : Int) = (p : Int) := by rw [← hpe, Int.add_mul, Int.one_mul]
    have hp3 : p ≤ 1000 := by
      have : (f + 1) * dt.length ≤ 21 * 40 := Nat.mul_le_mul (by omega) hdl
      omega
    have hwm : IntKind.i64.wrap (((f : Int) + 1) * (dt.length : Int)) = (p : Int) := by rw [hpe]; exact IntWalk.i64_in _ (by omega)
    rw [hp2] at hno
    have HP := Lib.hid hp
    clear hp hpe
    by_cases hbad : (N : Int) ≤ (f : Int) + 1 ∨ (y : Int) < (p : Int)
    · have hno1 : addNo (lD dt f) N y (nodeD dt) = true := by rw [hno]; simpa using hbad
      have HI := Lib.hid (show addI (lD dt f) N y (nodeD dt) = 0 by unfold addI; rw [hno1]; rfl)
      have HE := Lib.hid (show addE (lD dt f) N y (nodeD dt) = 10 by unfold addE; rw [hno1]; rfl)
      clear hno hno1 hp2
      go_wp2_with fail
      refine hadd.mono ?_
      intro e W6 h6
      obtain ⟨v6, m6, rfl, hm6, hr6, hb6, hav6⟩ := h6
      rw [hm, HI.out, HE.out]
      have hB6 := ret_tr hBr hb6
      obtain ⟨ao6, cap6, rfl, _, _⟩ := rdm_form hr6
      clear p0 p1 p2 hadd hr hr6 hm6 hm hav hav6
      by_cases hN1 : (N : Int) ≤ (f : Int) + 1
      · have hq : ((1 : Int) + (f : Int) == (N : Int)) = true := by rw [beq_iff_eq]; omega
        clear hbad
        go_wp2_with fail
        go_ret
        exact ⟨rfl, hB6.alloc hB6.size _⟩
      · have hq : ((1 : Int) + (f : Int) == (N : Int)) = false := by rw [beq_eq_false_iff_ne]; omega
        have hq2 : y < p := by omega
        clear hbad
        go_wp2_with fail
        go_ret
        exact ⟨rfl, hB6.alloc hB6.size _⟩
    · have hno1 : addNo (lD dt f) N y (nodeD dt) = false := by rw [hno]; simp; omega
      have HI := Lib.hid (show addI (lD dt f) N y (nodeD dt) = ((f : Int) + 1) by unfold addI; rw [hno1, lD_idx, lD_len]; simp)
      have HE := Lib.hid (show addE (lD dt f) N y (nodeD dt) = 0 by unfold addE; rw [hno1]; rfl)
      have HL := Lib.hid (show addL (lD dt f) N y (nodeD dt) = lD dt (f + 1) by unfold addL; rw [hno1, lD_idx]; exact lD_succ dt f)
      clear hno hno1 hp2
      go_wp2_with fail
      refine hadd.mono ?_
      intro e W6 h6
      obtain ⟨v6, m6, rfl, hm6, hr6, hb6, hav6⟩ := h6
      rw [hm, HI.out, HE.out]
      rw [hm, HL.out] at hm6
      have hlb : b9 < wr.heap.size := hD.out.lt
      have hav7 := hav6 b9 hlb hav
      have hd6 : GivesN (lD dt (f + 1)) v6 W6 := ⟨m6, hm6, hr6⟩
      have hB6 := ret_tr hBr hb6
      have hD6 := Lib.hid (hD.out.keep hb6).1
      have hlt6 := (hD.out.keep hb6).lt
      obtain ⟨ao6, cap6, rfl⟩ := gives_form hd6
      clear p0 p1 p2 hadd hr hav hav6 hm hlb
      have HM6 := Lib.hid hm6
      have HAv := Lib.hid hav7
      have HR6 := Lib.hid hr6
      clear hm6 hav7 hr6
      go_wp2_with fail
      refine fresh1 (P := fun W => Calls _ _ _ W _) ?_
      intro W7 hb7 hA7 hs7
      have HB7 := Lib.hid (ret_tr hB6 hb7)
      have HA7 := Lib.hid (show Dn W6.heap.size b9 _ N y (lD dt (f + 1)) W7 from ⟨hA7, m6, HM6.out, rdm_keep HR6.out hb7, HAv.out⟩)
      have HD7 := Lib.hid ((hb7.block _ hlt6).trans hD6.out)
      clear hb7 hA7 hd6 hD6 hb6 hB6
      have hus := used_g (lD dt (f + 1)) N y (by rw [lD_len]; omega) _ W7 HA7.out.gives
      rw [lD_used] at hus
      refine hus.mono ?_
      rintro e W8 ⟨rfl, hb8⟩
      have HB8 := Lib.hid (ret_tr HB7.out hb8)
      have HA8 := Lib.hid (HA7.out.keep hb8)
      have HD8 := Lib.hid ((hb8.block _ (by omega)).trans HD7.out)
      have hs8 := hb8.size
      clear hus hb8 HB7 HA7 HD7
      obtain ⟨p0, p1, p2⟩ := cells3 HA8.out.1
      go_wp2_with fail
      clear p0 p1 p2
      have hby := bytes_g (lD dt (f + 1)) N y (lD_small dt (f + 1) (by omega) hdl) _ W8 HA8.out.gives
      rw [lD_bytes, ← HP.out] at hby
      refine hby.mono ?_
      rintro e W9 ⟨rfl, hb9⟩
      have HB9 := Lib.hid (ret_tr HB8.out hb9)
      have HA9 := Lib.hid (HA8.out.keep hb9)
      have HD9 := Lib.hid ((hb9.block _ (by omega)).trans HD8.out)
      have hs9 := hb9.size
      clear hby hb9 HB8 HA8 HD8
      obtain ⟨p0, p1, p2⟩ := cells3 HA9.out.1
      obtain ⟨q0, q1, q2⟩ := cells3 HD9.out
      have qf := fun j => Lib.frozen_of_heap HD9.out j
      have hfy2 : p ≤ y := by omega
      have hfN2 : f + 2 ≤ N := by omega
      clear hbad
      have key := sets3 (P := fun W => Dn b9 b9 (.slice ao6 (lD dt (f + 1)).length cap6) N y (lD dt (f + 1)) W ∧ Below w.heap.size w W) (u0 := .slice ao6 (lD dt (f + 1)).length cap6) (u1 := .int .i64 N) (u2 := .int .i64 y) HD9.out (fun W' hb hg hs hh => by
        obtain ⟨_, m9, h1, h2, h3⟩ := HA9.out
        exact ⟨⟨hh, m9, h1, by rw [hs]; exact rdm_other h2 h3.1 h3.2 hg, h3⟩, HB9.out.trans (hb.mono (by have := HB5w; omega))⟩)
      have HK := Lib.hid key
      clear key
      go_wp2_with fail
      exact ⟨⟨f + 1, _, by go_num, by go_num, by omega, by rw [← HP.out]; exact hfy2, Lib.hid HK.out.1, HK.out.2⟩, by simp [intOf]; omega⟩
end Go.Proofs.Ytknjmdgnbhohdaa
