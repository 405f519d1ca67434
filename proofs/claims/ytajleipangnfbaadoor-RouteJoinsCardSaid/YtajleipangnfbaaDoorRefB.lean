/-
  The reference's Texts.
-/
import Derived.Test.YtajleipangnfbaaDoorRefA
namespace Go.Proofs.YtajleipangnfbaaDoor
open Go.RowKit Go.Shelf

theorem ret_bool {a b : Bool} (h : a = b) : Ending.returned (.bool a) = .returned (.bool b) := by rw [h]
theorem ret_bool' {a b : Bool} (h : b = a) : Ending.returned (.bool a) = .returned (.bool b) := by rw [h]
theorem take_step {ps qs : List (List UInt8)} {k : Nat} (h : ps.take k = qs.take k) (hk : ps.getD k [] = qs.getD k []) (h1 : k < ps.length) (h2 : k < qs.length) : ps.take (k + 1) = qs.take (k + 1) := by
  rw [List.take_succ_eq_append_getElem h1, List.take_succ_eq_append_getElem h2, h]
  simp [List.getD, h1, h2] at hk
  rw [hk]
/-- How the value of a row looks. -/
theorem ownsRow_form {W : World} {base : Nat} {e : TypeId} {size : Nat} {v : Value} {n : Nat} {xs : List Value} (h : W.ownsRow base e size v n xs) :
    ∃ ao cap, v = .slice ao n cap ∧ (0 < n → ∃ g, ao = some ⟨g, 0, none⟩) := by
  rcases h.2 with ⟨rfl, rfl⟩ | ⟨g, cap, _, rfl, _⟩
  · exact ⟨none, 0, rfl, fun h => (by omega)⟩
  · exact ⟨_, cap, rfl, fun _ => ⟨g, rfl⟩⟩

set_option maxHeartbeats 400000 in
theorem texts_ne (ao bo : Option Addr) (n m ca cb : Nat) (h : n ≠ m) (w : World) :
    Calls Tryd.prog 12 #[.slice ao n ca, .slice bo m cb] w fun e w' => e = .returned (.bool false) ∧ w' = w := by
  have h1 : ((n : Int) != (m : Int)) = true := by rw [bne_iff_ne]; omega
  clear h
  go_enter Tryd.func12, Tryd.ntmps12
  go_wp2
  go_ret
  exact ⟨rfl, rfl⟩

set_option maxHeartbeats 400000 in
theorem texts_nil (ao bo : Option Addr) (ca cb : Nat) (w : World) :
    Calls Tryd.prog 12 #[.slice ao 0 ca, .slice bo 0 cb] w fun e w' => e = .returned (.bool true) ∧ w' = w := by
  go_enter Tryd.func12, Tryd.ntmps12
  go_wp2
  go_loop [5] (fun i => i = .int .i64 0) (fun _ => 0)
  case atStart => rfl
  case round =>
    subst hrel
    go_wp2
    go_ret
    exact ⟨rfl, rfl⟩

set_option maxRecDepth 100000 in
set_option maxHeartbeats 1000000 in
theorem texts_loop (ga gb ca cb n : Nat) (ps qs : List (List UInt8)) (hn : n ≤ 65000) (hp : ps.length = n) (hq : qs.length = n) (w : World)
    (ha : ∀ (k : Nat) (_ : k < n), w.cell? ⟨ga, k, none⟩ = some (.string ⟨(ps.getD k []).toArray⟩)) (hb : ∀ (k : Nat) (_ : k < n), w.cell? ⟨gb, k, none⟩ = some (.string ⟨(qs.getD k []).toArray⟩)) :
    Calls Tryd.prog 12 #[.slice (some ⟨ga, 0, none⟩) n ca, .slice (some ⟨gb, 0, none⟩) n cb] w fun e w' => e = .returned (.bool (decide (ps = qs))) ∧ ∃ j, w' = w.drewN j := by
  have HP := Lib.hid hp
  have HQ := Lib.hid hq
  have HA := Lib.hid ha
  have HB := Lib.hid hb
  clear hp hq ha hb
  go_enter Tryd.func12, Tryd.ntmps12
  go_wp2
  go_loopw [5] (fun i wr => ∃ k j : Nat, i = .int .i64 k ∧ k ≤ n ∧ wr = w.drewN j ∧ Hid (ps.take k = qs.take k)) (fun i _ => n - (intOf i).toNat)
  case atStart => exact ⟨0, 0, rfl, Nat.zero_le _, rfl, Lib.hid rfl⟩
  case round =>
    obtain ⟨k, j, rfl, hk, rfl, he⟩ := hrel
    by_cases hlt : k < n
    · have h1 := HA.out k hlt
      have h2 := HB.out k hlt
      obtain ⟨x, hx⟩ : ∃ x, x = ps.getD k [] := ⟨_, rfl⟩
      obtain ⟨y, hy⟩ : ∃ y, y = qs.getD k [] := ⟨_, rfl⟩
      rw [← hx] at h1
      rw [← hy] at h2
      have HX := Lib.hid hx
      have HY := Lib.hid hy
      clear hx hy
      have i0 : (0 : Int) ≤ (k : Int) := by omega
      have i1 : (k : Int) < (n : Int) := by omega
      go_wp2
      go_quiet (fail)
      go_wp2
      · go_ret
        refine ⟨ret_bool ?_, j + nq, by simp⟩
        rw [decide_eq_false]
        intro e
        have hxy : x = y := by rw [HX.out, HY.out, e]
        have hne : (!x == y) = true := by assumption
        rw [hxy] at hne; simp at hne
      · go_roundw
        case rel =>
          have hne : (!x == y) = false := by assumption
          have hxy : x = y := by simpa using hne
          exact ⟨k + 1, _, by go_num, by omega, rfl, Lib.hid (take_step he.out (by rw [← HX.out, ← HY.out]; exact hxy) (by rw [HP.out]; exact hlt) (by rw [HQ.out]; exact hlt))⟩
        case measure => simp [intOf]; omega
    · obtain rfl : k = n := by omega
      go_wp2
      go_ret
      refine ⟨ret_bool ?_, _, rfl⟩
      have e := he.out
      rw [List.take_of_length_le (by rw [HP.out]; exact Nat.le_refl _), List.take_of_length_le (by rw [HQ.out]; exact Nat.le_refl _)] at e
      rw [decide_eq_true e]

theorem addr_add (g k : Nat) : (⟨g, 0, none⟩ : Addr).add k = ⟨g, k, none⟩ := by
  unfold Addr.add; split
  · rename_i h; subst h; rfl
  · simp

theorem strs_get (ps : List (List UInt8)) (k : Nat) (h : k < ps.length) : (strs ps)[k]? = some (.string ⟨(ps.getD k []).toArray⟩) := by
  unfold strs
  rw [List.getElem?_map, List.getElem?_eq_getElem h]
  simp [List.getD, h]

theorem texts_any (ps qs : List (List UInt8)) (hp : ps.length ≤ 65000) (w : World) (ba bb : Nat) (u v : Value) (ha : w.ownsRow ba 9 1 u ps.length (strs ps)) (hb : w.ownsRow bb 9 1 v qs.length (strs qs)) :
    Calls Tryd.prog 12 #[u, v] w fun e w' => e = .returned (.bool (decide (ps = qs))) ∧ ∃ j, w' = w.drewN j := by
  have fa := ownsRow_form ha
  have fb := ownsRow_form hb
  obtain ⟨ao, ca, rfl, fa⟩ := fa
  obtain ⟨bo, cb, rfl, fb⟩ := fb
  by_cases hl : ps.length = qs.length
  · by_cases h0 : ps.length = 0
    · have e1 : ps = [] := by simpa using h0
      have e2 : qs = [] := by rw [hl] at h0; simpa using h0
      subst e1 e2
      exact (texts_nil ao bo ca cb w).mono fun e w' ⟨h1, h2⟩ => ⟨h1, 0, h2⟩
    · obtain ⟨ga, rfl⟩ := fa (by omega)
      obtain ⟨gb, rfl⟩ := fb (by omega)
      have h := texts_loop ga gb ca cb ps.length ps qs hp rfl hl.symm w (fun k hk => by
          have := ha.cells (g := ga) rfl k _ (strs_get ps k hk); rwa [addr_add] at this)
        (fun k hk => by
          have := hb.cells (g := gb) rfl k _ (strs_get qs k (by omega)); rwa [addr_add] at this)
      rw [← hl]
      exact h
  · refine (texts_ne ao bo ps.length qs.length ca cb hl w).mono fun e w' ⟨h1, h2⟩ => ⟨?_, 0, h2⟩
    rw [h1, decide_eq_false]
    intro e; exact hl (by rw [e])
end Go.Proofs.YtajleipangnfbaaDoor
