/-
  The walk of StencilOwn.
-/
import Derived.Test.YtoombpdoagjaoaaLaw2C
import Derived.IntWalk
namespace Go.Proofs.Ytoombpdoagjaoaa
open Go.RowKit Go.Shelf

theorem ownsRow_below2 {w W' : World} {base : Nat} {e : TypeId} {z : Nat} {v : Value} {n : Nat} {xs : List Value} (h : w.ownsRow base e z v n xs) (hb : Below w.heap.size w W') : W'.ownsRow base e z v n xs := by
  refine ⟨h.1, h.2.imp id ?_⟩
  rintro ⟨g, cap, cur, h1, h2, h3, h4⟩
  exact ⟨g, cap, cur, h1, h2, (hb.block g (Array.getElem?_eq_some_iff.1 h3).1).trans h3, h4⟩
theorem big1 {n : Nat} (h : 100 < n) : decide ((100 : Int) < (n : Int)) = true := by simp; omega
theorem small1 {n : Nat} (h : ¬ 100 < n) : decide ((100 : Int) < (n : Int)) = false := by simp; omega
/-- The draws of the first j letters behind place k0. -/
def Placed (m : List UInt8) (k0 : Nat) (ds : List Int) : Prop := ∀ i, i < ds.length → lett (ds.getD i 0) = m.getD (k0 + i) 0
theorem Placed_snoc {m : List UInt8} {k0 : Nat} {ds : List Int} {p : Nat} {c : UInt8} (h : Placed m k0 ds) (hp : p < 36) (hc : lettL.getD p 0 = c) (hm : m.getD (k0 + ds.length) 0 = c) : Placed m k0 (ds ++ [(p : Int)]) := by
  intro i hi
  rw [List.length_append, List.length_singleton] at hi
  rcases Nat.lt_succ_iff_lt_or_eq.1 hi with h1 | rfl
  · have e : (ds ++ [(p : Int)]).getD i 0 = ds.getD i 0 := by
      rw [List.getD_eq_getElem?_getD, List.getD_eq_getElem?_getD, List.getElem?_append_left h1]
    rw [e]; exact h i h1
  · have e : (ds ++ [(p : Int)]).getD ds.length 0 = (p : Int) := by
      rw [List.getD_eq_getElem?_getD, List.getElem?_append_right (Nat.le_refl _)]; simp
    rw [e, lett_nat p hp, hc, hm]

set_option maxRecDepth 100000 in
set_option maxHeartbeats 4000000 in
theorem own_fits (t nm : ByteArray) (hp : t.size ≤ 100) (hq : nm.size ≤ 100) (hf : fitsB t.data.toList nm.data.toList = true) (w : World) :
    Calls Try.prog 7 #[.string t, .string nm] w fun e W' => e = .returned (.bool true) ∧ Below w.heap.size w W' := by
  have h1 := small1 (n := t.size) (by omega)
  have h2 := small1 (n := nm.size) (by omega)
  have hlt : t.data.toList.length = t.size := data_len t
  have hln : nm.data.toList.length = nm.size := data_len nm
  have hx := xs_le t.data.toList
  rw [hlt] at hx
  have hfl := fits_len hf
  rw [hlt, hln] at hfl
  obtain ⟨k0, hk0⟩ : ∃ k : Nat, k = t.size - xs t.data.toList := ⟨_, rfl⟩
  have hsub : (t.size : Int) - (xs t.data.toList : Int) = (k0 : Int) := by omega
  have hk0n : k0 ≤ nm.size := by omega
  obtain ⟨i0, hi, hz0, hz1, hz2⟩ := info_parts infoInt
  have hlet : ∀ i (h : i < nm.data.toList.length), k0 ≤ i → isLett nm.data.toList[i] = true := fun i h hk => fits_letter hf i (by rw [hlt, ← hk0]; exact hk) h
  have hown : ∀ ds : List Int, ds.length = nm.size - k0 → Placed nm.data.toList k0 ds → makeL t.data.toList ds = nm.data.toList := fun ds hd hpl =>
    makeL_own _ _ _ hf fun i hi => by rw [hlt, ← hk0]; exact hpl i (by omega)
  have HS := Lib.hid hsub
  have HL := Lib.hid hlet
  have HO := Lib.hid hown
  have HF := Lib.hid hf
  have HK := Lib.hid hk0
  have hnb : nm.size ≤ 100 := by omega
  clear hlet hown hf hk0 hsub hfl hlt hln
  go_enter Try.func7, Try.ntmps7
  go_wp2_with fail
  refine (shown_any _).mono ?_
  rintro e w1 ⟨rfl, hb1⟩
  have s1 := hb1.size
  go_wp2_with fail
  refine (fits_any _ _ _ (by omega) (by omega)).mono ?_
  rintro e w2 ⟨rfl, hb2⟩
  rw [HF.out]
  have s2 := hb2.size
  go_wp2_with fail
  refine (rcount_any _ (by omega) _).mono ?_
  rintro e w3 ⟨rfl, rfl⟩
  go_wp2
  rw [HS.out]
  have hbw2 : Below w.heap.size w w2 := hb1.trans (hb2.mono s1)
  go_loopw [5, 6] (fun v i wr => ∃ (j g cx : Nat) (ds : List Int), i = .int .i64 ((k0 + j : Nat) : Int) ∧ k0 + j ≤ nm.size ∧ v = .slice (some ⟨g, 0, none⟩) j cx ∧ ds.length = j ∧ Placed nm.data.toList k0 ds ∧
      wr.ownsRow w2.heap.size 3 1 v j (ints ds) ∧ Below w2.heap.size w2 wr) (fun _ i _ => nm.size - (intOf i).toNat)
  case atStart =>
    exact ⟨0, w2.heap.size, 0, [], by simp, hk0n, rfl, rfl, fun i hi => absurd hi (by simp), World.ownsRow_lit w2 #[] 0 (Nat.le_refl _) (Nat.zero_le _) rfl, (Below.refl _ w2).alloc (Nat.le_refl _) _⟩
  case round =>
    obtain ⟨j, g, cx, ds, rfl, hj, rfl, hdl, hpl, hown, hB⟩ := hrel
    have HPL := Lib.hid hpl
    have HDL := Lib.hid hdl
    clear hpl hdl
    by_cases hlt : k0 + j < nm.size
    · have hll : k0 + j < nm.data.toList.length := by rw [data_len]; exact hlt
      obtain ⟨c, hc⟩ : ∃ c, c = nm.data.toList[k0 + j] := ⟨_, rfl⟩
      obtain ⟨p, hp36, hpc⟩ := lett_place c (by rw [hc]; exact HL.out _ hll (by omega))
      have hcut : nm.extract (k0 + j) (k0 + j + 1) = ⟨#[c]⟩ := by
        apply ByteArray.ext
        rw [extract_eq, List.take_succ_eq_append_getElem hll, List.drop_append_of_le_length (by rw [List.length_take]; omega), List.drop_of_length_le (by rw [List.length_take]; omega), ← hc]
        rfl
      have hgd : Hid (nm.data.toList.getD (k0 + j) 0 = c) := Lib.hid (by rw [List.getD_eq_getElem?_getD, List.getElem?_eq_getElem hll, hc]; rfl)
      have HPC := Lib.hid hpc
      have hIv : (((k0 + j : Nat) : Int)).toNat = k0 + j := by omega
      clear hc hpc hll
      obtain ⟨i, hiq⟩ : ∃ i : Nat, i = k0 + j := ⟨_, rfl⟩
      rw [← hiq] at hcut hgd hIv hlt ⊢
      have HI := Lib.hid hiq
      have gi0 : (0 : Int) ≤ (i : Int) := by omega
      have gi1 : (i : Int) ≤ (i : Int) + 1 := by omega
      have gi2 : (i : Int) + 1 ≤ (nm.size : Int) := by omega
      have hjb : j ≤ 100 := by omega
      clear hiq hj
      go_wp2
      go_loopw [7] (fun kk wr2 => ∃ q : Nat, kk = .int .i64 (q : Int) ∧ q ≤ p ∧ wr2.ownsRow w2.heap.size 3 1 (.slice (some ⟨g, 0, none⟩) j cx) j (ints ds) ∧ Below w2.heap.size w2 wr2) (fun kk _ => p + 1 - (intOf kk).toNat)
      case atStart => exact ⟨0, rfl, Nat.zero_le _, hown, hB⟩
      case round =>
        obtain ⟨q, rfl, hqp, hown2, hB2⟩ := hrel
        have hq36 : decide ((q : Int) < 36) = true := by simp; omega
        have hw1 : IntKind.i64.wrap ((i : Int) + 1) = (i : Int) + 1 := IntWalk.i64_in _ (by omega)
        have ht1 : ((i : Int) + 1).toNat = i + 1 := by omega
        obtain ⟨d, hd⟩ : ∃ d, d = lett (q : Int) := ⟨_, rfl⟩
        have HD := Lib.hid hd
        have hdL := lett_nat q (by omega)
        rw [← hd] at hdL
        by_cases hqe : q = p
        · have hdc : d = c := by rw [hdL, hqe]; exact HPC.out
          have hIc : (!d == c) = false := by rw [hdc]; simp
          have HQ := Lib.hid hqe
          have hql : q < 36 := by omega
          clear hd hdL hdc hqe
          go_wp2
          refine wp_region_quiet_below (by kernel_rfl) (by kernel_rfl) ?_
          repeat (go_big_quiet_step ((go_at_call 14; exact Calls.regrown_of ((letter_any _ _).mono fun e W' ⟨he, hb⟩ => ⟨by rw [he, ← HD.out], hb⟩))))
          refine wpQuiet_nil ?_
          intro _ hw'
          obtain ⟨⟨dq, osq⟩, hw''⟩ := hw'
          have hbg : Below wr.heap.size wr _ := below_regrown wr dq osq
          rw [← hw''] at hbg
          clear hw''
          rename_i w5
          have hown5 := ownsRow_below2 hown2 hbg
          have hB5 : Below w2.heap.size w2 w5 := hB2.trans (hbg.mono hB2.size)
          clear hq36 hw1 ht1
          have sB5 := hB5.size
          go_wp2_with (at_builtin; refine wpList_append_lies _ rfl (.tmp 55) (.tmp 57) 29 rfl w2.heap.size 3 i0 (.int .i64 0) 1 8 Try.underlying29 hi hz0 hz1 hz2 rfl (by decide) _ j _ rfl (hown5.alloc _) ⟨w5.heap.size, 0, none⟩ 1 1 [.int .i64 q] rfl rfl (one_new _ _ _) (by intro u hu; simp only [List.mem_singleton] at hu; subst hu; rfl) (by decide) (by unfold maxLen; omega) (by omega) (by simp; omega) (w5.heap.size + 1) (by simp) ?_)
          intro g6 cap6 w6 ho6 hgr6 lie6 hlt6
          have hB6 := below_appended (Nat.le_refl _) hB5 hown5 hgr6
          have hpl6 : Hid (Placed nm.data.toList k0 (ds ++ [(q : Int)])) := Lib.hid (Placed_snoc (c := c) HPL.out hql (by rw [HQ.out]; exact HPC.out) (by rw [HDL.out, ← HI.out]; exact hgd.out))
          have hints : Hid (ints (ds ++ [(q : Int)]) = ints ds ++ [.int .i64 (q : Int)]) := Lib.hid (by simp [ints])
          clear lie6
          go_wp2
          go_roundw
          case rel =>
            have e1 : k0 + (j + 1) = i + 1 := by rw [HI.out]; omega
            refine ⟨j + 1, g6, _, ds ++ [(q : Int)], ?_, ?_, rfl, ?_, hpl6.out, ?_, hB6⟩
            · rw [e1]; go_num
            · rw [e1]; exact hlt
            · rw [List.length_append, HDL.out]; rfl
            · rw [hints.out]; exact ho6
          case measure => simp [intOf]; omega
        · have hdc : d ≠ c := by
            intro e
            have e2 : lettL.getD q 0 = lettL.getD p 0 := by rw [← hdL, e]; exact HPC.out.symm
            exact hqe (lett_inj q (by omega) p hp36 e2)
          have hIc : (!d == c) = true := by simp [hdc]
          have hql : q + 1 ≤ p := by omega
          clear hd hdL hdc hqe
          go_wp2
          refine wp_region_quiet_below (by kernel_rfl) (by kernel_rfl) ?_
          repeat (go_big_quiet_step ((go_at_call 14; exact Calls.regrown_of ((letter_any _ _).mono fun e W' ⟨he, hb⟩ => ⟨by rw [he, ← HD.out], hb⟩))))
          refine wpQuiet_nil ?_
          intro _ hw'
          obtain ⟨⟨dq, osq⟩, hw''⟩ := hw'
          have hbg : Below wr.heap.size wr _ := below_regrown wr dq osq
          rw [← hw''] at hbg
          clear hw''
          rename_i w5
          have hown5 := ownsRow_below2 hown2 hbg
          have hB5 : Below w2.heap.size w2 w5 := hB2.trans (hbg.mono hB2.size)
          go_wp2
          go_roundw
          case rel => exact ⟨q + 1, by go_num, hql, hown5, hB5⟩
          case measure => simp [intOf]; omega
    · have hkj : k0 + j = nm.size := by omega
      have hge : (nm.size : Int) ≤ ((k0 + j : Nat) : Int) := by omega
      have hge' : decide (((k0 + j : Nat) : Int) < (nm.size : Int)) = false := by simp; omega
      have hr : RdI wr.heap.size .i64 (.slice (some ⟨g, 0, none⟩) j cx) ds wr := by
        have e := HDL.out
        subst e
        exact RdI.own (e := 3) (base := w2.heap.size) hown (Nat.le_refl _)
      have HR := Lib.hid hr
      have HM : Hid (makeL t.data.toList ds = nm.data.toList) := Lib.hid (HO.out ds (by rw [HDL.out]; omega) HPL.out)
      have hdb : ds.length ≤ 65000 := by rw [HDL.out]; omega
      clear hr
      go_wp2_with fail
      refine (make_any _ _ _ _ (by omega) HR.out hdb).mono ?_
      rintro e w3 ⟨rfl, hb3⟩
      rw [HM.out]
      go_wp2_with fail
      go_ret
      exact ⟨rfl, hbw2.trans ((hB.trans (hb3.mono hB.size)).mono (by omega))⟩

set_option maxRecDepth 100000 in
set_option maxHeartbeats 1000000 in
theorem own_walk (t nm : ByteArray) (_ : t.size ≤ 9223372036854775807) (_ : nm.size ≤ 9223372036854775807) (w : World) :
    Calls Try.prog 7 #[.string t, .string nm] w fun e W' => e = .returned (.bool true) ∧ Below w.heap.size w W' := by
  by_cases hp : 100 < t.size
  · have h1 := big1 hp
    clear hp
    go_enter Try.func7, Try.ntmps7
    go_wp2_with (go_at_call 9; refine (shown_any _).mono ?_; rintro e w1 ⟨rfl, hb1⟩)
    go_ret
    exact ⟨rfl, hb1⟩
  · have h1 := small1 hp
    by_cases hq : 100 < nm.size
    · have h2 := big1 hq
      clear hp hq
      go_enter Try.func7, Try.ntmps7
      go_wp2_with (go_at_call 9; refine (shown_any _).mono ?_; rintro e w1 ⟨rfl, hb1⟩)
      go_ret
      exact ⟨rfl, hb1⟩
    · have h2 := small1 hq
      by_cases hf : fitsB t.data.toList nm.data.toList = true
      · exact own_fits t nm (by omega) (by omega) hf w
      · have hff : fitsB t.data.toList nm.data.toList = false := by simpa using hf
        obtain ⟨m, hm⟩ : ∃ m, m = makeL t.data.toList [] := ⟨_, rfl⟩
        have hne : m ≠ nm.data.toList := by
          intro e
          rw [← e, hm, makeL_fits] at hff
          cases hff
        have hI : (!(m == nm.toList)) = true := by rw [Lib.toList_data]; simpa using hne
        have HF := Lib.hid hff
        have HM := Lib.hid hm
        have hp' : t.size ≤ 65000 := by omega
        have hq' : nm.size ≤ 65000 := by omega
        clear hf hff hne hm hp hq
        go_enter Try.func7, Try.ntmps7
        go_wp2_with fail
        refine (shown_any _).mono ?_
        rintro e w1 ⟨rfl, hb1⟩
        have s1 := hb1.size
        go_wp2_with fail
        refine (fits_any _ _ _ hp' hq').mono ?_
        rintro e w2 ⟨rfl, hb2⟩
        rw [HF.out]
        have s2 := hb2.size
        go_wp2_with fail
        refine (make_any _ _ [] _ hp' (RdI.nil _ _ _ _ _) (by decide)).mono ?_
        rintro e w3 ⟨rfl, hb3⟩
        rw [← HM.out]
        go_wp2_with fail
        go_ret
        exact ⟨rfl, hb1.trans ((hb2.trans (hb3.mono s2)).mono s1)⟩
end Go.Proofs.Ytoombpdoagjaoaa
