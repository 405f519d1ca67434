/-
  The reference's Dir and Join.
-/
import Derived.Test.YtajleipangnfbaaDoorRefD
namespace Go.Proofs.YtajleipangnfbaaDoor
open Go.RowKit Go.Shelf

theorem size_of (q : ByteArray) (l : List UInt8) (k : Nat) (h : q.data.toList = l.take k) (hk : k ≤ l.length) : q.size = k := by
  rw [← data_len, h]; simp; omega
theorem last_of (q : ByteArray) (l : List UInt8) (k : Nat) (h : q.data.toList = l.take k) (hk : k ≤ l.length) (hq : 0 < q.size) : l[k - 1]? = some (q[q.size - 1]'(by omega)) := by
  obtain ⟨hn, hb⟩ := last_byte q hq
  have hs := size_of q l k h hk
  rw [← hb, List.getLast_eq_getElem, ← List.getElem?_eq_getElem]
  simp only [h]
  rw [List.length_take, Nat.min_eq_left hk, List.getElem?_take_of_lt (by omega)]

theorem dA1 {l : List UInt8} {k : Nat} {b : Bool} (h : Lib.trimRightB (l.take k) 47 = []) (h2 : b = true) (hp : Lib.hasPrefix l [47] = b) : [47] = dirAt l k := by
  unfold dirAt; rw [if_neg (by rw [h]; simp), if_pos (hp.trans h2)]
theorem dA2 {l : List UInt8} {k : Nat} {b : Bool} (h : Lib.trimRightB (l.take k) 47 = []) (h2 : b = false) (hp : Lib.hasPrefix l [47] = b) : [46] = dirAt l k := by
  unfold dirAt; rw [if_neg (by rw [h]; simp), if_neg (by rw [hp, h2]; simp)]
theorem dA3 {l : List UInt8} {k : Nat} (h : ¬ Lib.trimRightB (l.take k) 47 = []) : Lib.trimRightB (l.take k) 47 = dirAt l k := by
  unfold dirAt; rw [if_pos h]
theorem isEmpty_of {l : List UInt8} (h : ¬ l = []) : l.isEmpty = false := by cases l with | nil => exact absurd rfl h | cons a r => rfl

set_option maxRecDepth 100000 in
set_option maxHeartbeats 2000000 in
theorem rdir_some (s : ByteArray) (hs : s.size ≤ 65000) (x y : Nat) (h1 : s.data.toList ≠ []) (hsp : (spans s.data.toList).getLast? = some (x, y)) (w : World) :
    Calls Tryd.prog 20 #[.string s] w fun e W' => e = .returned (.string ⟨(dirAt s.data.toList x).toArray⟩) ∧ W' = w := by
  have n1 := isEmpty_no s h1
  have hT := trim_some hsp
  obtain ⟨⟨p1, p2, p3, p4⟩, _⟩ := spans_last hsp
  simp only at p1 p2 p3 p4 hT
  rw [data_len] at p2
  have P3 := Lib.hid p3
  have P4 := Lib.hid p4
  have hyne : ((List.take y s.data.toList).isEmpty) = false := by
    cases e : List.take y s.data.toList with
    | nil => have := congrArg List.length e; rw [List.length_take, data_len] at this; have h2 : min y s.size = 0 := this; omega
    | cons a r => rfl
  have hpos : 0 < s.size := by rw [← data_len]; exact List.length_pos_iff.2 h1
  have hposI : (0 : Int) < (s.size : Int) := by omega
  have HPRE := Lib.hid (pre_byte s hpos)
  clear p3 p4 h1 hsp
  go_enter Tryd.func20, Tryd.ntmps20
  go_wp2_with (go_at_call 31; refine (bare_any _ hs _).mono ?_; rintro e w' ⟨rfl, rfl⟩)
  go_loop [3] (fun p => ∃ (k : Nat) (q : ByteArray), p = .string q ∧ x ≤ k ∧ k ≤ y ∧ Hid (q.data.toList = s.data.toList.take k)) (fun p => match p with | .string s => s.size | _ => 0)
  case atStart => exact ⟨y, _, rfl, by omega, Nat.le_refl _, Lib.hid (by simp)⟩
  case round =>
    obtain ⟨k, q, rfl, hk1, hk2, hq⟩ := hrel
    have hqs := Lib.hid (size_of q _ k hq.out (by rw [data_len]; omega))
    have hq65 : q.size ≤ 65000 := by have := hqs.out; omega
    by_cases hx : k = x
    · subst hx
      have hq' := hq.out
      by_cases h0 : q.data.toList = []
      · have n2 := isEmpty_yes q h0
        have n3 : (!q.toList.isEmpty) = false := by rw [n2]; rfl
        clear h0
        by_cases hA : Lib.trimRightB (List.take k s.data.toList) 47 = []
        · have HA := Lib.hid hA
          go_wp2_with (go_at_call 31; refine (bare_any _ (by omega) _).mono ?_; rintro e w' ⟨rfl, rfl⟩)
          all_goals go_ret
          · exact ⟨ret_str (dA1 HA.out ‹_› HPRE.out), rfl⟩
          · exact ⟨ret_str (dA2 HA.out ‹_› HPRE.out), rfl⟩
        · have hA2 := isEmpty_of hA
          go_wp2_with (go_at_call 31; refine (bare_any _ (by omega) _).mono ?_; rintro e w' ⟨rfl, rfl⟩)
          go_ret
          exact ⟨ret_str (dA3 hA), rfl⟩
      · have n2 := isEmpty_no q h0
        have n3 : (!q.toList.isEmpty) = true := by rw [n2]; rfl
        have hqp : 0 < q.size := by rw [← data_len]; exact List.length_pos_iff.2 h0
        have g0 : (1 : Int) ≤ (q.size : Int) := by omega
        have g1 : (0 : Int) ≤ (q.size : Int) - 1 := by omega
        have hb : (((q[q.size - 1]'(by omega)).toNat : Int) != 47) = false := by
          have := last_of q _ k hq.out (by rw [data_len]; omega) hqp
          rcases P3.out with h | h
          · have := hqs.out; omega
          · rw [h] at this; have := Option.some.inj this; rw [← this]; rfl
        clear h0
        by_cases hA : Lib.trimRightB (List.take k s.data.toList) 47 = []
        · have HA := Lib.hid hA
          go_wp2_with (go_at_call 31; refine (bare_any _ (by omega) _).mono ?_; rintro e w' ⟨rfl, rfl⟩)
          all_goals go_ret
          · exact ⟨ret_str (dA1 HA.out ‹_› HPRE.out), rfl⟩
          · exact ⟨ret_str (dA2 HA.out ‹_› HPRE.out), rfl⟩
        · have hA2 := isEmpty_of hA
          go_wp2_with (go_at_call 31; refine (bare_any _ (by omega) _).mono ?_; rintro e w' ⟨rfl, rfl⟩)
          go_ret
          exact ⟨ret_str (dA3 hA), rfl⟩
    · have hkx : x < k := by omega
      have hqp : 0 < q.size := by have := hqs.out; omega
      have h0 : q.data.toList ≠ [] := by intro e; rw [← data_len, e] at hqp; cases hqp
      have n2 := isEmpty_no q h0
      have n3 : (!q.toList.isEmpty) = true := by rw [n2]; rfl
      have g0 : (1 : Int) ≤ (q.size : Int) := by omega
      have g1 : (0 : Int) ≤ (q.size : Int) - 1 := by omega
      have g2 : (q.size : Int) - 1 ≤ (q.size : Int) := by omega
      have hb : (((q[q.size - 1]'(by omega)).toNat : Int) != 47) = true := by
        have h1 := last_of q _ k hq.out (by rw [data_len]; omega) hqp
        have h2 := P4.out (k - 1) (by omega) (by omega)
        rw [h1] at h2
        rw [bne_iff_ne]; intro h
        exact h2 (congrArg some (UInt8.toNat_inj.1 (by have e : (47 : UInt8).toNat = 47 := rfl; omega)))
      have hq2 : Hid ((q.extract 0 (q.size - 1)).data.toList = s.data.toList.take (k - 1)) := Lib.hid (by
        rw [extract_eq, hq.out, hqs.out]; simp [List.take_take])
      clear h0
      go_wp2
      go_round
      case rel => exact ⟨k - 1, _, rfl, by omega, by omega, hq2⟩
      case measure =>
        show (q.extract 0 (q.size - 1)).size < q.size
        rw [ByteArray.size_extract]; omega
end Go.Proofs.YtajleipangnfbaaDoor
