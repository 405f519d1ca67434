/-
  The walk of RouteUps.
-/
import Derived.Test.YtajleipangnfbaaDoorLaw1C
import Derived.Test.YtajleipangnfbaaDoorPathUps
namespace Go.Proofs.YtajleipangnfbaaDoor
open Go.RowKit Go.Shelf

theorem split_up {l u x : List UInt8} {k : Nat} (hat : UpAt l u k) (hk : k < (parts l).length) (hx : x = (parts l).getD k []) (hu : u.length ≤ 65000) (w : World) :
    Calls Tryd.prog 10 #[.string ⟨u.toArray⟩] w fun e W' => ∃ g c m, Hid (m = k + 1) ∧ e = .returned (.tuple #[.slice (some ⟨g, 0, none⟩) m c, .bool (Lib.hasPrefix l [47]), .bool false]) ∧
      W'.cell? ⟨g, k, none⟩ = some (.string ⟨x.toArray⟩) ∧ Below w.heap.size w W' := by
  refine (split_any ⟨u.toArray⟩ (by rw [← data_len]; exact hu) w).mono fun e W' ⟨v, he, hown, hB⟩ => ?_
  have e0 : (⟨u.toArray⟩ : ByteArray).data.toList = u := rfl
  rw [e0, hat.parts] at hown
  rw [e0, hat.pre, hat.suf] at he
  have hlen : ((parts l).take (k + 1)).length = k + 1 := by simp; omega
  rw [hlen] at hown
  obtain ⟨ao, c, rfl, hf⟩ := ownsRow_form hown
  obtain ⟨g, rfl⟩ := hf (Nat.succ_pos k)
  have hc := hown.cells (g := g) rfl k _ (strs_get _ k (by rw [hlen]; exact Nat.lt_succ_self k))
  rw [addr_add] at hc
  refine ⟨g, c, k + 1, Lib.hid rfl, he, ?_, hB⟩
  rw [hc, hx]
  have hk2 : k < k + 1 := Nat.lt_succ_self k
  simp [List.getD, List.getElem?_take_of_lt hk2]

set_option maxRecDepth 100000 in
set_option maxHeartbeats 2000000 in
theorem ups_small (p : ByteArray) (hp : p.size ≤ 200) (w : World) : Calls Tryd.prog 6 #[.string p] w fun e W' => e = .returned (.bool true) ∧ Below w.heap.size w W' := by
  have h1 : decide ((200 : Int) < (p.size : Int)) = false := by simp; omega
  have hp' : p.size ≤ 65000 := by omega
  have hup : (ups p.data.toList).length = (parts p.data.toList).length := by simp [ups, parts]
  have hln : (parts p.data.toList).length ≤ 65000 := by have := spans_len p.data.toList; rw [data_len] at this; simp only [parts, List.length_map]; omega
  obtain ⟨n, hn⟩ : ∃ n, n = (parts p.data.toList).length := ⟨_, rfl⟩
  rw [← hn] at hup hln
  have HN := Lib.hid hn
  have HU := Lib.hid hup
  clear hn hup
  go_enter Tryd.func6, Tryd.ntmps6
  go_wp2_with fail
  refine (shown_any _).mono ?_
  rintro e w1 ⟨rfl, hb1⟩
  go_wp2_with fail
  refine (split_any _ hp' _).mono ?_
  rintro e w2 ⟨v2, rfl, ho2, hb2⟩
  rw [← HN.out] at ho2
  obtain ⟨a2, c2, rfl, hf2⟩ := ownsRow_form ho2
  have HF2 := Lib.hid hf2
  clear hf2
  go_wp2_with fail
  refine (ups_any _ hp' _).mono ?_
  rintro e w3 ⟨v3, rfl, ho3, hb3⟩
  rw [HU.out] at ho3
  obtain ⟨a3, c3, rfl, hf3⟩ := ownsRow_form ho3
  have HF3 := Lib.hid hf3
  clear hf3
  have ho2' := ownsRow_below ho2 hb3
  have hB3 : Below w.heap.size w w3 := by
    have s1 := hb1.size
    have s2 := hb2.size
    exact hb1.trans ((hb2.mono s1).trans (hb3.mono (by omega)))
  clear ho2 hb1 hb2 hb3
  go_wp2_with fail
  go_loopw [7] (fun i wr => ∃ k : Nat, i = .int .i64 k ∧ k ≤ n ∧ Below w3.heap.size w3 wr) (fun i _ => n - (intOf i).toNat)
  case atStart => exact ⟨0, rfl, Nat.zero_le _, Below.refl _ _⟩
  case round =>
    obtain ⟨k, rfl, hk, hBr⟩ := hrel
    by_cases hlt : k < n
    · obtain ⟨g2, rfl⟩ := HF2.out (by omega)
      obtain ⟨g3, rfl⟩ := HF3.out (by omega)
      obtain ⟨x, hx⟩ : ∃ x, x = (parts p.data.toList).getD k [] := ⟨_, rfl⟩
      obtain ⟨u, hu⟩ : ∃ u, u = (ups p.data.toList).getD k [] := ⟨_, rfl⟩
      have hat : UpAt p.data.toList u k := by rw [hu]; exact up_at (by rw [HU.out]; exact hlt)
      have c2' := ho2'.cells (g := g2) rfl k _ (strs_get _ k (by rw [← HN.out]; exact hlt))
      have c3' := ho3.cells (g := g3) rfl k _ (strs_get _ k (by rw [HU.out]; exact hlt))
      rw [addr_add, ← hx] at c2'
      rw [addr_add, ← hu] at c3'
      have d3 := (hBr.cell (p := ⟨g3, k, none⟩) (lt_of_cell c3')).trans c3'
      have hul : u.length ≤ p.size := by have := hat.len; rwa [data_len] at this
      have HX := Lib.hid hx
      have HAT := Lib.hid hat
      clear hx hu hat
      have i0 : (0 : Int) ≤ (k : Int) := by omega
      have i1 : (k : Int) < (n : Int) := by omega
      have hsum : IntKind.i64.wrap ((k : Int) + 1) = (k : Int) + 1 := IntWalk.i64_in _ (by omega)
      have hgt : decide ((p.size : Int) < (u.length : Int)) = false := by simp; omega
      have hxu : p.extract 0 u.length = ⟨u.toArray⟩ := by rw [extract_eq, List.drop_zero, ← HAT.out.eq]
      have j0 : (0 : Int) ≤ (u.length : Int) := by omega
      have j1 : (u.length : Int) ≤ (p.size : Int) := by omega
      go_wp2_with fail
      refine (split_up HAT.out (by rw [← HN.out]; exact hlt) HX.out (by omega) _).mono ?_
      rintro e w4 ⟨g4, c4, m4, HM, rfl, hc4, hb4⟩
      have hm1 : ((m4 : Int) != (k : Int) + 1) = false := by rw [HM.out]; simp
      have hm2 : (k : Int) < (m4 : Int) := by have := HM.out; omega
      have e2 := (hb4.cell (p := ⟨g2, k, none⟩) (lt_of_cell ((hBr.cell (p := ⟨g2, k, none⟩) (lt_of_cell c2')).trans c2'))).trans ((hBr.cell (p := ⟨g2, k, none⟩) (lt_of_cell c2')).trans c2')
      have e3 := (hb4.cell (p := ⟨g3, k, none⟩) (lt_of_cell d3)).trans d3
      have hBr' : Below w3.heap.size w3 w4 := hBr.trans (hb4.mono hBr.size)
      clear c2' c3' d3 hBr hb4
      go_wp2_with fail
      go_quiet (fail)
      go_wp2
      go_roundw
      case rel => exact ⟨k + 1, by go_num, by omega, below_drewN hBr' nq⟩
      case measure => simp [intOf]; omega
    · go_wp2
      go_ret
      exact ⟨rfl, hB3.trans (hBr.mono hB3.size)⟩

theorem ups_walk (p : ByteArray) (hP : p.size ≤ 9223372036854775807) (w : World) : Calls Tryd.prog 6 #[.string p] w fun e W' => e = .returned (.bool true) ∧ Below w.heap.size w W' := by
  by_cases hp : 200 < p.size
  · have h1 : decide ((200 : Int) < (p.size : Int)) = true := by simp; omega
    clear hp
    go_enter Tryd.func6, Tryd.ntmps6
    go_wp2_with (go_at_call 9; refine (shown_any _).mono ?_; rintro e w1 ⟨rfl, hb1⟩)
    go_ret
    exact ⟨rfl, hb1⟩
  · exact ups_small p (by omega) w
end Go.Proofs.YtajleipangnfbaaDoor
