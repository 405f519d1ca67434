/-
  The reference's Split.
-/
import Derived.Test.YtajleipangnfbaaDoorRouteF
import Derived.Test.YtajleipangnfbaaDoorRefPlain
import Derived.Laws.OwnMore
namespace Go.Proofs.YtajleipangnfbaaDoor
open Go.RowKit Go.Shelf

theorem byte_eq (c : UInt8) : ((c.toNat : Int) == 47) = (c == 47) := by
  rw [Bool.eq_iff_iff, beq_iff_eq, beq_iff_eq]
  constructor
  · intro h; exact UInt8.toNat_inj.1 (by have e : (47 : UInt8).toNat = 47 := rfl; omega)
  · intro h; rw [h]; rfl
theorem pre_byte (s : ByteArray) (h : 0 < s.size) : Lib.hasPrefix s.data.toList [47] = (((s[0]'h).toNat : Int) == 47) := by
  rw [byte_eq, pre_eq]
  have e : ∃ c r, s.data.toList = c :: r ∧ s[0]'h = c := by
    cases hl : s.data.toList with
    | nil => rw [← data_len, hl] at h; cases h
    | cons c r =>
      refine ⟨c, r, rfl, ?_⟩
      have h0 : 0 < s.data.toList.length := by rw [data_len]; exact h
      show s.data.toList[0]'h0 = c
      simp only [hl, List.getElem_cons_zero]
  obtain ⟨c, r, hl, hc⟩ := e
  rw [hl, hc]
theorem suf_byte (s : ByteArray) (h : 0 < s.size) : Lib.hasSuffix s.data.toList [47] = (((s[s.size - 1]'(by omega)).toNat : Int) == 47) := by
  have hn : s.data.toList ≠ [] := by intro e; rw [← data_len, e] at h; cases h
  rw [byte_eq, suf_eq _ hn, List.getLast_eq_getElem]
  have e : s.data.toList[s.data.toList.length - 1]'(by rw [data_len]; omega) = s[s.size - 1]'(by omega) := by
    simp only [data_len]; rfl
  rw [e]

/-- A text, and the byte behind it. -/
theorem cat_one (s : ByteArray) (k : Nat) (h : k < s.size) (q : List UInt8) : (⟨q.toArray⟩ : ByteArray) ++ s.extract k (k + 1) = ⟨(q ++ [s[k]'h]).toArray⟩ := by
  have hl : k < s.data.toList.length := by rw [data_len]; exact h
  have e : List.drop k (List.take (k + 1) s.data.toList) = [s[k]'h] := by
    rw [List.take_succ_eq_append_getElem hl, List.drop_append_of_le_length (by simp; omega)]
    simp; rfl
  apply ByteArray.ext
  rw [extract_eq, e]
  simp

set_option maxRecDepth 100000 in
set_option maxHeartbeats 2000000 in
theorem rsplit_loop (s : ByteArray) (hs : s.size ≤ 65000) (w : World) :
    Calls Tryd.prog 11 #[.string s] w fun e W' => ∃ v, e = .returned (.tuple #[v, .bool (Lib.hasPrefix s.data.toList [47]), .bool (Lib.hasSuffix s.data.toList [47])]) ∧
      W'.ownsRow w.heap.size 9 1 v (parts s.data.toList).length (strs (parts s.data.toList)) ∧ Below w.heap.size w W' := by
  obtain ⟨i0, hi, hz0, hz1, hz2⟩ := info_parts infoStr
  go_enter Tryd.func11, Tryd.ntmps11
  go_wp2
  go_loopw [5, 6, 7] (fun v p i wr => ∃ (k : Nat) (st : Option Nat) (xs : List (List UInt8)) (q : List UInt8), i = .int .i64 k ∧ k ≤ s.size ∧ p = .string ⟨q.toArray⟩ ∧ q = partOf s.data.toList k st ∧ RS s.data.toList k st xs ∧
      wr.ownsRow w.heap.size 9 1 v xs.length (strs xs) ∧ Below w.heap.size w wr) (fun _ _ i _ => s.size - (intOf i).toNat)
  case atStart => exact ⟨0, none, [], [], rfl, Nat.zero_le _, rfl, rfl, RS_zero _, World.ownsRow_lit w #[] 0 (Nat.le_refl _) (Nat.zero_le _) rfl, (Below.refl _ _).alloc (Nat.le_refl _) _⟩
  case round =>
    obtain ⟨k, st, xs, q, rfl, hk, rfl, hq, hrs, hown, hB⟩ := hrel
    have hxl := hrs.2.2.2
    have hst := hrs.2.1
    have HR := Lib.hid hrs
    have HS := Lib.hid hst
    clear hrs hst
    by_cases hlt : k < s.size
    · have hll : k < s.data.toList.length := by rw [data_len]; exact hlt
      have hgl : s.data.toList[k]'hll = s[k]'hlt := rfl
      by_cases hc : s[k]'hlt = 47
      · have hcI : (((s[k]'hlt).toNat : Int) == 47) = true := by rw [hc]; rfl
        have hcN : (((s[k]'hlt).toNat : Int) != 47) = false := by rw [hc]; rfl
        cases st with
        | none =>
          have HR' := RS_skip HR.out hll (hgl.trans hc)
          obtain rfl : q = [] := hq
          have HR1 := Lib.hid HR'
          clear HR' hgl hc hll
          go_wp2
          go_roundw
          case rel => exact ⟨k + 1, none, xs, [], by go_num, by omega, rfl, rfl, HR1.out, hown, hB⟩
          case measure => simp [intOf]; omega
        | some b =>
          have HR' := RS_close HR.out hll (hgl.trans hc)
          rw [← hq] at HR'
          have HR1 := Lib.hid HR'
          have hqn : q ≠ [] := by rw [hq]; exact cutS_ne _ _ _ (HS.out b rfl) (Nat.le_of_lt hll)
          have hqI : (!q.isEmpty) = true := by simpa using hqn
          clear HR' hgl hc hll hqn hq
          go_wp2_with (at_builtin; refine wpList_append_own _ rfl _ _ 23 rfl w.heap.size 9 i0 (.string ByteArray.empty) 1 16 Tryd.underlying23 hi hz0 hz1 hz2 rfl (by decide) _ _ _ rfl (hown.alloc _) ⟨wr.heap.size, 0, none⟩ 1 1 [.string ⟨q.toArray⟩] rfl rfl (one_new _ _ _) (one_str _) (by unfold maxLen; omega) (by omega) (by have := hB.size; simp; omega) ?_; intro v' w1 hown' hgrow _; have hB1 := below_appended (Nat.le_refl _) hB hown hgrow)
          go_roundw
          case rel => exact ⟨k + 1, none, xs ++ [q], [], by go_num, by omega, rfl, rfl, HR1.out, by simpa [strs] using hown', hB1⟩
          case measure => simp [intOf]; omega
      · have hcI : (((s[k]'hlt).toNat : Int) == 47) = false := by
          rw [beq_eq_false_iff_ne]; intro h; exact hc (UInt8.toNat_inj.1 (by have e : (47 : UInt8).toNat = 47 := rfl; omega))
        have hcN : (((s[k]'hlt).toNat : Int) != 47) = true := by
          rw [bne_iff_ne]; intro h; exact hc (UInt8.toNat_inj.1 (by have e : (47 : UInt8).toNat = 47 := rfl; omega))
        obtain ⟨q', hq'⟩ : ∃ q', q' = q ++ [s[k]'hlt] := ⟨_, rfl⟩
        have hqp : q' = partOf s.data.toList (k + 1) (some (st.getD k)) := by rw [hq', hq, ← hgl]; exact partOf_goon HS.out hll
        have HQ := Lib.hid hqp
        have hcat : (⟨q.toArray⟩ : ByteArray) ++ s.extract k (k + 1) = ⟨q'.toArray⟩ := by rw [hq', cat_one s k hlt q]
        have hqI : (!q'.isEmpty) = true := by rw [hq']; simp
        have hroom : ¬ 9223372036854775807 < q.length + (min (k + 1) s.size - k) := by have := partOf_len s.data.toList k st; rw [← hq] at this; omega
        have g1 : (0 : Int) ≤ (k : Int) := by omega
        have g2 : (k : Int) ≤ (k : Int) + 1 := by omega
        have g3 : (k : Int) + 1 ≤ (s.size : Int) := by omega
        by_cases hl : k + 1 = s.size
        · have hkI : ((k : Int) == (s.size : Int) - 1) = true := by rw [beq_iff_eq]; omega
          have HR' := RS_last HR.out hll (by rw [data_len]; exact hl) (by rw [hgl]; exact hc)
          rw [← hqp] at HR'
          have HR1 := Lib.hid HR'
          clear HR' hgl hc hll hq hq' hqp hl
          go_wp2_with (at_builtin; refine wpList_append_own _ rfl _ _ 23 rfl w.heap.size 9 i0 (.string ByteArray.empty) 1 16 Tryd.underlying23 hi hz0 hz1 hz2 rfl (by decide) _ _ _ rfl (hown.alloc _) ⟨wr.heap.size, 0, none⟩ 1 1 [.string ⟨q'.toArray⟩] rfl rfl (one_new _ _ _) (one_str _) (by unfold maxLen; omega) (by omega) (by have := hB.size; simp; omega) ?_; intro v' w1 hown' hgrow _; have hB1 := below_appended (Nat.le_refl _) hB hown hgrow)
          go_roundw
          case rel => exact ⟨k + 1, none, xs ++ [q'], [], by go_num, by omega, rfl, rfl, HR1.out, by simpa [strs] using hown', hB1⟩
          case measure => simp [intOf]; omega
        · have hkI : ((k : Int) == (s.size : Int) - 1) = false := by rw [beq_eq_false_iff_ne]; omega
          have HR' := RS_goon HR.out (by rw [data_len]; omega) (by rw [hgl]; exact hc)
          have HR1 := Lib.hid HR'
          clear HR' hgl hc hll hq hq' hqp
          go_wp2
          go_roundw
          case rel => exact ⟨k + 1, _, xs, q', by go_num, by omega, rfl, HQ.out, HR1.out, hown, hB⟩
          case measure => simp [intOf]; omega
    · obtain rfl : k = s.size := by omega
      have HP : Hid (xs = parts s.data.toList) := Lib.hid (by have := HR.out; rw [← data_len] at this; exact RS_end this)
      obtain rfl := HP.out
      by_cases he : s.data.toList = []
      · have n1 := isEmpty_yes s he
        have n2 : (!s.toList.isEmpty) = false := by rw [n1]; rfl
        have e1 : Hid (Lib.hasPrefix s.data.toList [47] = false ∧ Lib.hasSuffix s.data.toList [47] = false) := Lib.hid (by rw [he]; exact ⟨rfl, rfl⟩)
        clear he
        go_wp2
        go_quiet (fail)
        go_wp2
        refine bodyPost_ret (v := .tuple #[u5, .bool false, .bool false]) (by simp [results, Tryd.results11, go_sem]) rfl ⟨u5, by rw [e1.out.1, e1.out.2], ownsRow_drewN hown _, below_drewN hB _⟩
      · have n1 := isEmpty_no s he
        have n2 : (!s.toList.isEmpty) = true := by rw [n1]; rfl
        have hpos : 0 < s.size := by rw [← data_len]; exact List.length_pos_iff.2 he
        have hposI : (0 : Int) < (s.size : Int) := by omega
        have hlast : (s.size : Int) - 1 < (s.size : Int) := by omega
        have hlast0 : (0 : Int) ≤ (s.size : Int) - 1 := by omega
        have h1I : (1 : Int) ≤ (s.size : Int) := by omega
        have hsum : IntKind.i64.wrap ((s.size : Int) - 1) = (s.size : Int) - 1 := IntWalk.i64_in _ (by omega)
        have htn : ((s.size : Int) - 1).toNat = s.size - 1 := by omega
        have HE := Lib.hid he
        clear he
        go_wp2
        go_quiet (fail)
        go_wp2
        refine bodyPost_ret (v := .tuple #[u5, .bool (((s[0]'hpos).toNat : Int) == 47), .bool (((s[s.size - 1]'(by omega)).toNat : Int) == 47)]) (by simp [results, Tryd.results11, go_sem]) rfl ⟨u5, ?_, ownsRow_drewN hown _, below_drewN hB _⟩
        rw [pre_byte s hpos, suf_byte s hpos]
end Go.Proofs.YtajleipangnfbaaDoor
