/-
  The reference's Ups, bare, Dir and Join.
-/
import Derived.Test.YtajleipangnfbaaDoorRefC
import Derived.Test.YtajleipangnfbaaDoorPathPlain
namespace Go.Proofs.YtajleipangnfbaaDoor
open Go.RowKit Go.Shelf

/-- What is open ahead of place i, in the reference's Ups: st is whether the byte ahead is of a part. -/
def US (l : List UInt8) (i : Nat) (xs : List (List UInt8)) : Prop :=
  ∃ st : Option Nat, xs ++ (sp i st (l.drop i)).map (fun p => l.take p.2) = ups l ∧ (st = none ∨ (∃ (h : i < l.length), l[i] ≠ 47)) ∧ xs.length ≤ i
theorem US_zero (l : List UInt8) : US l 0 [] := ⟨none, rfl, .inl rfl, Nat.le_refl _⟩
/-- A slash: nothing ends there. -/
theorem US_slash {l : List UInt8} {i : Nat} {xs : List (List UInt8)} (h : US l i xs) (hi : i < l.length) (hc : l[i] = 47) : US l (i + 1) xs := by
  obtain ⟨st, h1, h2, h3⟩ := h
  obtain rfl : st = none := h2.resolve_right (fun ⟨_, h⟩ => h hc)
  rw [sp_slash l i hi hc] at h1
  exact ⟨none, h1, .inl rfl, by omega⟩
theorem US_goon {l : List UInt8} {i : Nat} {xs : List (List UInt8)} (h : US l i xs) (hi : i + 1 < l.length) (hc : l[i] ≠ 47) (hd : l[i + 1] ≠ 47) : US l (i + 1) xs := by
  obtain ⟨st, h1, h2, h3⟩ := h
  cases st with
  | none => rw [sp_none_part l i (by omega) hc] at h1; exact ⟨_, h1, .inr ⟨hi, hd⟩, by omega⟩
  | some s => rw [sp_some_part l s i (by omega) hc] at h1; exact ⟨_, h1, .inr ⟨hi, hd⟩, by omega⟩
theorem US_ends {l : List UInt8} {i : Nat} {xs : List (List UInt8)} (h : US l i xs) (hi : i < l.length) (hc : l[i] ≠ 47) (hd : i + 1 = l.length ∨ ∃ (h : i + 1 < l.length), l[i + 1] = 47) : US l (i + 1) (xs ++ [l.take (i + 1)]) := by
  obtain ⟨st, h1, h2, h3⟩ := h
  have h4 : ∃ s, sp i st (l.drop i) = sp (i + 1) (some s) (l.drop (i + 1)) := by
    cases st with
    | none => exact ⟨i, sp_none_part l i hi hc⟩
    | some s => exact ⟨s, sp_some_part l s i hi hc⟩
  obtain ⟨s, h4⟩ := h4
  rw [h4] at h1
  refine ⟨none, ?_, .inl rfl, by simp; omega⟩
  rcases hd with hd | ⟨hd, he⟩
  · rw [hd, sp_some_end] at h1
    rw [hd, sp_end]; simpa using h1
  · rw [sp_some_slash l s (i + 1) hd he] at h1
    rw [sp_slash l (i + 1) hd he]; simpa using h1
theorem US_end {l : List UInt8} {xs : List (List UInt8)} (h : US l l.length xs) : xs = ups l := by
  obtain ⟨st, h1, h2, h3⟩ := h
  obtain rfl : st = none := h2.resolve_right (fun ⟨h, _⟩ => (by omega))
  rw [sp_end] at h1; simpa using h1

set_option maxRecDepth 100000 in
set_option maxHeartbeats 1000000 in
theorem rups_any (s : ByteArray) (hs : s.size ≤ 65000) (w : World) :
    Calls Tryd.prog 16 #[.string s] w fun e W' => ∃ v, e = .returned v ∧
      W'.ownsRow w.heap.size 9 1 v (ups s.data.toList).length (strs (ups s.data.toList)) ∧ Below w.heap.size w W' := by
  obtain ⟨i0, hi, hz0, hz1, hz2⟩ := info_parts infoStr
  go_enter Tryd.func16, Tryd.ntmps16
  go_wp2
  go_loopw [3, 4] (fun v i wr => ∃ (k : Nat) (xs : List (List UInt8)), i = .int .i64 ((k : Int) + 1) ∧ k ≤ s.size ∧ Hid (US s.data.toList k xs) ∧ xs.length ≤ k ∧
      wr.ownsRow w.heap.size 9 1 v xs.length (strs xs) ∧ Below w.heap.size w wr) (fun _ i _ => s.size + 1 - (intOf i).toNat)
  case atStart => exact ⟨0, [], rfl, Nat.zero_le _, Lib.hid (US_zero _), Nat.zero_le _, World.ownsRow_lit w #[] 0 (Nat.le_refl _) (Nat.zero_le _) rfl, (Below.refl _ _).alloc (Nat.le_refl _) _⟩
  case round =>
    obtain ⟨k, xs, rfl, hk, hu, hxl, hown, hB⟩ := hrel
    by_cases hlt : k < s.size
    · have hll : k < s.data.toList.length := by rw [data_len]; exact hlt
      have hgl : s.data.toList[k]'hll = s[k]'hlt := rfl
      have g0 : (0 : Int) ≤ (k : Int) := by omega
      have g1 : (k : Int) < (s.size : Int) := by omega
      have g2 : (k : Int) + 1 ≤ (s.size : Int) := by omega
      have g3 : (0 : Int) ≤ (k : Int) + 1 := by omega
      by_cases hc : s[k]'hlt = 47
      · have hcN : (((s[k]'hlt).toNat : Int) != 47) = false := by rw [hc]; rfl
        have hu' : Hid (US s.data.toList (k + 1) xs) := Lib.hid (US_slash hu.out hll (hgl.trans hc))
        clear hc hgl hll
        go_wp2
        go_roundw
        case rel => exact ⟨k + 1, xs, by go_num, by omega, hu', by omega, hown, hB⟩
        case measure => simp [intOf]; omega
      · have hcN : (((s[k]'hlt).toNat : Int) != 47) = true := by
          rw [bne_iff_ne]; intro h; exact hc (UInt8.toNat_inj.1 (by have e : (47 : UInt8).toNat = 47 := rfl; omega))
        by_cases hl : k + 1 = s.size
        · have hkI : ((k : Int) + 1 == (s.size : Int)) = true := by rw [beq_iff_eq]; omega
          have hu' : Hid (US s.data.toList (k + 1) (xs ++ [s.data.toList.take (k + 1)])) := Lib.hid (US_ends hu.out hll (by rw [hgl]; exact hc) (.inl (by rw [data_len]; exact hl)))
          clear hc hgl hll hl
          go_wp2_with (at_builtin; refine wpList_append_own _ rfl _ _ 23 rfl w.heap.size 9 i0 (.string ByteArray.empty) 1 16 Tryd.underlying23 hi hz0 hz1 hz2 rfl (by decide) _ _ _ rfl (hown.alloc _) ⟨wr.heap.size, 0, none⟩ 1 1 [.string (s.extract 0 (k + 1))] rfl rfl (one_new _ _ _) (one_str _) (by unfold maxLen; omega) (by omega) (by have := hB.size; simp; omega) ?_; intro v' w1 hown' hgrow _; have hB1 := below_appended (Nat.le_refl _) hB hown hgrow)
          go_roundw
          case rel => exact ⟨k + 1, _, by go_num, by omega, hu', by simp; omega, by rw [extract_eq] at hown'; simpa [strs] using hown', hB1⟩
          case measure => simp [intOf]; omega
        · have hkI : ((k : Int) + 1 == (s.size : Int)) = false := by rw [beq_eq_false_iff_ne]; omega
          have hlt' : k + 1 < s.size := by omega
          have hltI : (k : Int) + 1 < (s.size : Int) := by omega
          have hll' : k + 1 < s.data.toList.length := by rw [data_len]; exact hlt'
          have hgl' : s.data.toList[k + 1]'hll' = s[k + 1]'hlt' := rfl
          have htn : ((k : Int) + 1).toNat = k + 1 := by omega
          by_cases hd : s[k + 1]'hlt' = 47
          · have hdI : (((s[k + 1]'hlt').toNat : Int) == 47) = true := by rw [hd]; rfl
            have hu' : Hid (US s.data.toList (k + 1) (xs ++ [s.data.toList.take (k + 1)])) := Lib.hid (US_ends hu.out hll (by rw [hgl]; exact hc) (.inr ⟨hll', hgl'.trans hd⟩))
            clear hc hgl hll hl hd hgl' hll'
            go_wp2_with (at_builtin; refine wpList_append_own _ rfl _ _ 23 rfl w.heap.size 9 i0 (.string ByteArray.empty) 1 16 Tryd.underlying23 hi hz0 hz1 hz2 rfl (by decide) _ _ _ rfl (hown.alloc _) ⟨wr.heap.size, 0, none⟩ 1 1 [.string (s.extract 0 (k + 1))] rfl rfl (one_new _ _ _) (one_str _) (by unfold maxLen; omega) (by omega) (by have := hB.size; simp; omega) ?_; intro v' w1 hown' hgrow _; have hB1 := below_appended (Nat.le_refl _) hB hown hgrow)
            go_roundw
            case rel => exact ⟨k + 1, _, by go_num, by omega, hu', by simp; omega, by rw [extract_eq] at hown'; simpa [strs] using hown', hB1⟩
            case measure => simp [intOf]; omega
          · have hdI : (((s[k + 1]'hlt').toNat : Int) == 47) = false := by
              rw [beq_eq_false_iff_ne]; intro h; exact hd (UInt8.toNat_inj.1 (by have e : (47 : UInt8).toNat = 47 := rfl; omega))
            have hu' : Hid (US s.data.toList (k + 1) xs) := Lib.hid (US_goon hu.out hll' (by rw [hgl]; exact hc) (by rw [hgl']; exact hd))
            clear hc hgl hll hl hd hgl' hll'
            go_wp2
            go_roundw
            case rel => exact ⟨k + 1, xs, by go_num, by omega, hu', by omega, hown, hB⟩
            case measure => simp [intOf]; omega
    · obtain rfl : k = s.size := by omega
      have E : Hid (xs = ups s.data.toList) := Lib.hid (by have := hu.out; rw [← data_len] at this; exact US_end this)
      go_wp2
      go_ret
      refine ⟨_, rfl, ?_, hB⟩
      rw [← E.out]; exact hown

/-! ### bare: no slashes at the end -/
/-- The last byte of a text. -/
theorem last_byte (s : ByteArray) (h : 0 < s.size) : ∃ hn : s.data.toList ≠ [], s.data.toList.getLast hn = s[s.size - 1]'(by omega) := by
  have hn : s.data.toList ≠ [] := by intro e; rw [← data_len, e] at h; cases h
  refine ⟨hn, ?_⟩
  rw [List.getLast_eq_getElem]
  simp only [data_len]; rfl
theorem drop_last (s : ByteArray) : (s.extract 0 (s.size - 1)).data.toList = s.data.toList.dropLast := by
  rw [extract_eq]; simp [List.dropLast_eq_take]

set_option maxRecDepth 100000 in
set_option maxHeartbeats 1000000 in
theorem bare_any (s : ByteArray) (hs : s.size ≤ 65000) (w : World) :
    Calls Tryd.prog 31 #[.string s] w fun e W' => e = .returned (.string ⟨(Lib.trimRightB s.data.toList 47).toArray⟩) ∧ W' = w := by
  go_enter Tryd.func31, Tryd.ntmps31
  go_wp2
  go_loop [0] (fun p => ∃ q : ByteArray, p = .string q ∧ q.size ≤ 65000 ∧ Hid (Lib.trimRightB q.data.toList 47 = Lib.trimRightB s.data.toList 47)) (fun p => match p with | .string s => s.size | _ => 0)
  case atStart => exact ⟨s, rfl, hs, Lib.hid rfl⟩
  case round =>
    obtain ⟨q, rfl, hq, ht⟩ := hrel
    by_cases h0 : q.data.toList = []
    · have n1 := isEmpty_yes q h0
      have n2 : (!q.toList.isEmpty) = false := by rw [n1]; rfl
      have E : Hid (q.data.toList = Lib.trimRightB s.data.toList 47) := Lib.hid (by rw [← ht.out, h0]; rfl)
      clear h0
      go_wp2
      go_ret
      exact ⟨ret_bytes E.out, rfl⟩
    · have n1 := isEmpty_no q h0
      have n2 : (!q.toList.isEmpty) = true := by rw [n1]; rfl
      have hpos : 0 < q.size := by rw [← data_len]; exact List.length_pos_iff.2 h0
      have hposI : (1 : Int) ≤ (q.size : Int) := by omega
      have g0 : (0 : Int) ≤ (q.size : Int) - 1 := by omega
      have g1 : (q.size : Int) - 1 ≤ (q.size : Int) := by omega
      obtain ⟨hn, hlb⟩ := last_byte q hpos
      by_cases hc : q[q.size - 1]'(by omega) = 47
      · have hcI : (((q[q.size - 1]'(by omega)).toNat : Int) == 47) = true := by rw [hc]; rfl
        have ht' : Hid (Lib.trimRightB (q.extract 0 (q.size - 1)).data.toList 47 = Lib.trimRightB s.data.toList 47) := Lib.hid (by rw [drop_last, trim_last hn (hlb.trans hc)]; exact ht.out)
        clear hc hlb hn h0
        go_wp2
        go_round
        case rel => exact ⟨_, rfl, by rw [ByteArray.size_extract]; omega, ht'⟩
        case measure =>
          show (q.extract 0 (q.size - 1)).size < q.size
          rw [ByteArray.size_extract]; omega
      · have hcI : (((q[q.size - 1]'(by omega)).toNat : Int) == 47) = false := by rw [byte_eq, beq_eq_false_iff_ne]; exact hc
        have E : Hid (q.data.toList = Lib.trimRightB s.data.toList 47) := Lib.hid (by rw [← ht.out, trim_stop hn (by rw [hlb]; exact hc)])
        clear hc hlb hn h0
        go_wp2
        go_ret
        exact ⟨ret_bytes E.out, rfl⟩
end Go.Proofs.YtajleipangnfbaaDoor
