/-
  The reference's Check and Base.
-/
import Derived.Test.YtajleipangnfbaaDoorRefB
namespace Go.Proofs.YtajleipangnfbaaDoor
open Go.RowKit Go.Shelf

theorem cutS_len (l : List UInt8) (p : Nat × Nat) (h : p ∈ spans l) : (cutS l p).length = p.2 - p.1 := by
  have := spans_bd l p h
  unfold cutS; simp; omega
theorem check_r3 {l : List UInt8} (h : l ≠ []) (h2 : ¬ 100 < l.length) (h3 : (0 : UInt8) ∉ l) {k : Nat} (hk : k < (parts l).length) (h4 : 12 < ((parts l).getD k []).length) : checkE l = 9 := by
  refine check_e3 h h2 h3 ?_
  have hs : k < (spans l).length := by simpa [parts] using hk
  refine ⟨(spans l)[k], List.getElem_mem hs, ?_⟩
  rw [← cutS_len l _ (List.getElem_mem hs)]
  simpa [parts, List.getD, hs] using h4
theorem check_r4 {l : List UInt8} (h : l ≠ []) (h2 : ¬ 100 < l.length) (h3 : (0 : UInt8) ∉ l) (h4 : ∀ k, k < (parts l).length → ((parts l).getD k []).length ≤ 12) : checkE l = 0 := by
  refine check_e4 h h2 h3 fun p hp => ?_
  obtain ⟨k, hk, rfl⟩ := List.getElem_of_mem hp
  rw [← cutS_len l _ (List.getElem_mem hk)]
  have := h4 k (by simpa [parts] using hk)
  simpa [parts, List.getD, hk] using this
def NoZero (l : List UInt8) (k : Nat) : Prop := ∀ (j : Nat) (h : j < l.length), j < k → l[j] ≠ 0
def Fits (ps : List (List UInt8)) (k : Nat) : Prop := ∀ j, j < k → (ps.getD j []).length ≤ 12
theorem NoZero_step {l : List UInt8} {k : Nat} (h : NoZero l k) (hk : k < l.length) (hc : l[k] ≠ 0) : NoZero l (k + 1) := by
  intro j hj hjk
  rcases Nat.lt_succ_iff_lt_or_eq.1 hjk with h1 | rfl
  · exact h j hj h1
  · exact hc
theorem NoZero_all {l : List UInt8} (h : NoZero l l.length) : (0 : UInt8) ∉ l := by
  intro hm
  obtain ⟨j, hj, he⟩ := List.getElem_of_mem hm
  exact h j hj hj he
theorem byte0 (c : UInt8) (h : c ≠ 0) : (((c.toNat : Int)) == 0) = false := by
  rw [beq_eq_false_iff_ne]; intro e; exact h (UInt8.toNat_inj.1 (by have : (0 : UInt8).toNat = 0 := rfl; omega))

set_option maxHeartbeats 400000 in
theorem rcheck_zero (s : ByteArray) (hs : s.size ≤ 100) (h1 : s.data.toList ≠ []) (h3 : (0 : UInt8) ∈ s.data.toList) (w : World) :
    Calls Tryd.prog 14 #[.string s] w fun e W' => e = .returned (.int .i64 1) ∧ W' = w := by
  have n1 := isEmpty_no s h1
  have H3 := Lib.hid h3
  clear h1 h3
  go_enter Tryd.func14, Tryd.ntmps14
  go_wp2
  go_loop [3] (fun i => ∃ k : Nat, i = .int .i64 k ∧ k ≤ s.size ∧ Hid (NoZero s.data.toList k)) (fun i => s.size - (intOf i).toNat)
  case atStart => exact ⟨0, rfl, Nat.zero_le _, Lib.hid (fun _ _ h => (by omega))⟩
  case round =>
    obtain ⟨k, rfl, hk, hz⟩ := hrel
    by_cases hlt : k < s.size
    · by_cases hc : s[k]'hlt = 0
      · have hcI : (((s[k]'hlt).toNat : Int) == 0) = true := by rw [hc]; rfl
        clear hc
        go_wp2
        go_ret
        exact ⟨rfl, rfl⟩
      · have hcI := byte0 _ hc
        have hz' : Hid (NoZero s.data.toList (k + 1)) := Lib.hid (NoZero_step hz.out (by rw [data_len]; exact hlt) hc)
        clear hc
        go_wp2
        go_round
        case rel => exact ⟨k + 1, by go_num, by omega, hz'⟩
        case measure => simp [intOf]; omega
    · obtain rfl : k = s.size := by omega
      exact absurd H3.out (NoZero_all (by have := hz.out; rwa [← data_len] at this))

set_option maxRecDepth 100000 in
set_option maxHeartbeats 1000000 in
theorem rcheck_ok (s : ByteArray) (hs : s.size ≤ 100) (h1 : s.data.toList ≠ []) (h3 : (0 : UInt8) ∉ s.data.toList) (w : World) :
    Calls Tryd.prog 14 #[.string s] w fun e W' => e = .returned (.int .i64 (checkE s.data.toList)) ∧ Below w.heap.size w W' := by
  have n1 := isEmpty_no s h1
  have H1 := Lib.hid h1
  have H3 := Lib.hid h3
  clear h1 h3
  go_enter Tryd.func14, Tryd.ntmps14
  go_wp2
  go_loop [3] (fun i => ∃ k : Nat, i = .int .i64 k ∧ k ≤ s.size) (fun i => s.size - (intOf i).toNat)
  case atStart => exact ⟨0, rfl, Nat.zero_le _⟩
  case round =>
    obtain ⟨k, rfl, hk⟩ := hrel
    by_cases hlt : k < s.size
    · have hcI := byte0 (s[k]'hlt) (fun e => H3.out (by
        have hl : k < s.data.toList.length := by rw [data_len]; exact hlt
        rw [← e]; exact List.getElem_mem hl))
      go_wp2
      go_round
      case rel => exact ⟨k + 1, by go_num, by omega⟩
      case measure => simp [intOf]; omega
    · go_wp2_with (go_at_call 11; refine (rsplit_loop _ (by omega) _).mono ?_; rintro e w' ⟨v, rfl, hown, hB⟩; obtain ⟨ao, cap, rfl, hf⟩ := ownsRow_form hown; have HF := Lib.hid hf; clear hf)
      have hle : (parts s.data.toList).length ≤ 65000 := by
        have := spans_len s.data.toList; rw [data_len] at this; simp only [parts, List.length_map]; omega
      obtain ⟨n, hn⟩ : ∃ n, n = (parts s.data.toList).length := ⟨_, rfl⟩
      rw [← hn] at hown hle ⊢
      rw [← hn] at HF
      have HN := Lib.hid hn
      clear hn
      go_loop [7] (fun i => ∃ k : Nat, i = .int .i64 k ∧ k ≤ n ∧ Hid (Fits (parts s.data.toList) k)) (fun i => n - (intOf i).toNat)
      case atStart => exact ⟨0, rfl, Nat.zero_le _, Lib.hid (fun _ h => (by omega))⟩
      case round =>
        obtain ⟨k, rfl, hk, hft⟩ := hrel
        by_cases hlt2 : k < n
        · obtain ⟨g, rfl⟩ := HF.out (by omega)
          have hc := hown.cells (g := g) rfl k _ (strs_get _ k (by rw [← HN.out]; exact hlt2))
          rw [addr_add] at hc
          obtain ⟨x, hx⟩ : ∃ x, x = (parts s.data.toList).getD k [] := ⟨_, rfl⟩
          rw [← hx] at hc
          have HX := Lib.hid hx
          clear hx
          have i0 : (0 : Int) ≤ (k : Int) := by omega
          have i1 : (k : Int) < (n : Int) := by omega
          by_cases hb : 12 < x.length
          · have hbI : (12 : Int) < (x.length : Int) := by omega
            have E : Hid (checkE s.data.toList = 9) := Lib.hid (check_r3 H1.out (by rw [data_len]; omega) H3.out (by rw [← HN.out]; exact hlt2) (by rw [← HX.out]; exact hb))
            go_wp2
            go_ret
            exact ⟨ret_int E.out.symm, hB⟩
          · have hbI : ¬ (12 : Int) < (x.length : Int) := by omega
            have hft' : Hid (Fits (parts s.data.toList) (k + 1)) := Lib.hid (fun j hj => by
              rcases Nat.lt_succ_iff_lt_or_eq.1 hj with h | rfl
              · exact hft.out j h
              · rw [← HX.out]; omega)
            go_wp2
            go_round
            case rel => exact ⟨k + 1, by go_num, by omega, hft'⟩
            case measure => simp [intOf]; omega
        · have E : Hid (checkE s.data.toList = 0) := Lib.hid (check_r4 H1.out (by rw [data_len]; omega) H3.out (fun j hj => hft.out j (by rw [← HN.out] at hj; omega)))
          go_wp2
          go_ret
          exact ⟨ret_int E.out.symm, hB⟩

set_option maxHeartbeats 400000 in
theorem rcheck_any (s : ByteArray) (w : World) :
    Calls Tryd.prog 14 #[.string s] w fun e W' => e = .returned (.int .i64 (checkE s.data.toList)) ∧ Below w.heap.size w W' := by
  by_cases h1 : s.data.toList = []
  · have n1 := isEmpty_yes s h1
    have E := Lib.hid (check_e0 h1)
    clear h1
    go_enter Tryd.func14, Tryd.ntmps14
    go_wp2
    go_ret
    exact ⟨ret_int E.out.symm, Below.refl _ _⟩
  · by_cases h2 : 100 < s.data.toList.length
    · have E := Lib.hid (check_e1 h1 h2)
      have n1 := isEmpty_no s h1
      have n2 : 100 < s.size := by rw [data_len] at h2; omega
      clear h1 h2
      go_enter Tryd.func14, Tryd.ntmps14
      go_wp2
      go_ret
      exact ⟨ret_int E.out.symm, Below.refl _ _⟩
    · have hs : s.size ≤ 100 := by rw [data_len] at h2; omega
      by_cases h3 : (0 : UInt8) ∈ s.data.toList
      · refine (rcheck_zero s hs h1 h3 w).mono fun e w' ⟨he, hw⟩ => ⟨?_, ?_⟩
        · rw [he, check_e2 h1 h2 h3]
        · rw [hw]; exact Below.refl _ _
      · exact rcheck_ok s hs h1 h3 w

set_option maxRecDepth 100000 in
set_option maxHeartbeats 1000000 in
theorem rbase_any (s : ByteArray) (hs : s.size ≤ 65000) (w : World) :
    Calls Tryd.prog 18 #[.string s] w fun e W' => e = .returned (.string ⟨(baseL s.data.toList).toArray⟩) ∧ Below w.heap.size w W' := by
  have hln : (parts s.data.toList).length = (spans s.data.toList).length := by simp [parts]
  have hle : (parts s.data.toList).length ≤ 65000 := by
    have := spans_len s.data.toList; rw [data_len] at this; omega
  by_cases h1 : s.data.toList = []
  · have n1 := isEmpty_yes s h1
    have E : Hid (baseL s.data.toList = []) := Lib.hid (by unfold baseL; rw [if_pos h1])
    clear h1 hln
    go_enter Tryd.func18, Tryd.ntmps18
    go_wp2_with (go_at_call 11; refine (rsplit_loop _ (by omega) _).mono ?_; rintro e w' ⟨v, rfl, hown, hB⟩; obtain ⟨ao, cap, rfl, hf⟩ := ownsRow_form hown; have HF := Lib.hid hf; clear hf)
    go_ret
    exact ⟨by rw [E.out]; rfl, hB⟩
  · have n1 := isEmpty_no s h1
    by_cases h2 : spans s.data.toList = []
    · have E := Lib.hid (base_none h1 h2)
      have h0 : (parts s.data.toList).length = 0 := by rw [hln, h2]; rfl
      have h0I : (((parts s.data.toList).length : Int) == 0) = true := by rw [beq_iff_eq]; omega
      clear h1 h2 hln h0
      go_enter Tryd.func18, Tryd.ntmps18
      go_wp2_with (go_at_call 11; refine (rsplit_loop _ (by omega) _).mono ?_; rintro e w' ⟨v, rfl, hown, hB⟩; obtain ⟨ao, cap, rfl, hf⟩ := ownsRow_form hown; have HF := Lib.hid hf; clear hf)
      go_ret
      exact ⟨by rw [E.out]; rfl, hB⟩
    · have E := Lib.hid (base_some h1 h2)
      have hpos : 0 < (parts s.data.toList).length := by rw [hln]; exact List.length_pos_iff.2 h2
      have h0I : (((parts s.data.toList).length : Int) == 0) = false := by rw [beq_eq_false_iff_ne]; omega
      have hlast : Hid ((parts s.data.toList).getD ((parts s.data.toList).length - 1) [] = cutS s.data.toList (lastOf (spans s.data.toList))) := Lib.hid (by
        unfold lastOf
        rw [List.getLast?_eq_some_getLast h2, List.getLast_eq_getElem]
        have hs1 : (spans s.data.toList).length - 1 < (spans s.data.toList).length := by
          have := List.length_pos_iff.2 h2; omega
        simp [parts, List.getD, hs1])
      clear h1 h2 hln
      have g1 : (1 : Int) ≤ ((parts s.data.toList).length : Int) := by omega
      have g2 : (0 : Int) ≤ ((parts s.data.toList).length : Int) - 1 := by omega
      go_enter Tryd.func18, Tryd.ntmps18
      go_wp2_with (go_at_call 11; refine (rsplit_loop _ (by omega) _).mono ?_; rintro e w' ⟨v, rfl, hown, hB⟩; obtain ⟨ao, cap, rfl, hf⟩ := ownsRow_form hown; obtain ⟨g, rfl⟩ := hf hpos; have hc := hown.cells (g := g) rfl _ _ (strs_get _ ((parts s.data.toList).length - 1) (by omega)); rw [addr_add, hlast.out] at hc)
      go_ret
      exact ⟨by rw [E.out]; rfl, hB⟩
end Go.Proofs.YtajleipangnfbaaDoor
