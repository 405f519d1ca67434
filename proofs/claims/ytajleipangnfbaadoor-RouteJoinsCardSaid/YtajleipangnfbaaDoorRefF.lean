/-
  The reference's Dir, whole, and Join.
-/
import Derived.Test.YtajleipangnfbaaDoorRefE
namespace Go.Proofs.YtajleipangnfbaaDoor
open Go.RowKit Go.Shelf

set_option maxHeartbeats 1000000 in
theorem rdir_any (s : ByteArray) (hs : s.size ≤ 65000) (w : World) :
    Calls Tryd.prog 20 #[.string s] w fun e W' => e = .returned (.string ⟨(dirL s.data.toList).toArray⟩) ∧ W' = w := by
  by_cases h1 : s.data.toList = []
  · have n1 := isEmpty_yes s h1
    have E : Hid (dirL s.data.toList = [46]) := Lib.hid (by unfold dirL; rw [if_pos h1])
    clear h1
    go_enter Tryd.func20, Tryd.ntmps20
    go_wp2
    go_ret
    exact ⟨by rw [E.out]; rfl, rfl⟩
  · by_cases h2 : spans s.data.toList = []
    · have E := Lib.hid (dir_none h1 h2)
      have n1 := isEmpty_no s h1
      have hT := trim_none h2
      clear h1 h2
      go_enter Tryd.func20, Tryd.ntmps20
      go_wp2_with (go_at_call 31; refine (bare_any _ hs _).mono ?_; rintro e w' ⟨rfl, rfl⟩)
      go_ret
      exact ⟨by rw [E.out]; rfl, rfl⟩
    · rw [dir_some h1 h2]
      have h3 : (spans s.data.toList).getLast? = some (lastOf (spans s.data.toList)) := by
        unfold lastOf; rw [List.getLast?_eq_some_getLast h2]; rfl
      exact rdir_some s hs _ _ h1 h3 w

theorem joinR_1 {a b : List UInt8} (h : a = []) : b = joinL a b := by unfold joinL; rw [if_pos (.inl h)]
theorem joinR_2 {a b : List UInt8} (h : ¬ a = []) (h2 : b = []) : a = joinL a b := by
  subst h2; unfold joinL; rw [if_neg, if_pos rfl]; rintro (h1 | h1)
  · exact h h1
  · cases h1
theorem joinR_3 {a b : List UInt8} {c : Bool} (h2 : c = true) (hp : Lib.hasPrefix b [47] = c) : b = joinL a b := by unfold joinL; rw [if_pos (.inr (hp.trans h2))]
theorem joinR_4 {a b : List UInt8} {c d : Bool} (h : ¬ a = []) (hb : ¬ b = []) (h2 : c = false) (hp : Lib.hasPrefix b [47] = c) (h3 : d = true) (hs : Lib.hasSuffix a [47] = d) : a ++ b = joinL a b := by
  unfold joinL; rw [if_neg, if_neg hb, if_pos (hs.trans h3)]; rintro (h1 | h1)
  · exact h h1
  · rw [hp, h2] at h1; cases h1
theorem joinR_5 {a b : List UInt8} {c d : Bool} (h : ¬ a = []) (hb : ¬ b = []) (h2 : c = false) (hp : Lib.hasPrefix b [47] = c) (h3 : d = false) (hs : Lib.hasSuffix a [47] = d) : a ++ [47] ++ b = joinL a b := by
  unfold joinL; rw [if_neg, if_neg hb, if_neg (by rw [hs, h3]; simp)]; rintro (h1 | h1)
  · exact h h1
  · rw [hp, h2] at h1; cases h1

set_option maxHeartbeats 1000000 in
theorem rjoin_any (s t : ByteArray) (hs : s.size ≤ 65000) (ht : t.size ≤ 65000) (w : World) :
    Calls Tryd.prog 22 #[.string s, .string t] w fun e W' => e = .returned (.string ⟨(joinL s.data.toList t.data.toList).toArray⟩) ∧ W' = w := by
  by_cases h1 : s.data.toList = []
  · have n1 := isEmpty_yes s h1
    have E := Lib.hid (joinR_1 (b := t.data.toList) h1)
    clear h1
    go_enter Tryd.func22, Tryd.ntmps22
    go_wp2
    go_ret
    exact ⟨ret_bytes E.out, rfl⟩
  · have n1 := isEmpty_no s h1
    have hsp : 0 < s.size := by rw [← data_len]; exact List.length_pos_iff.2 h1
    by_cases h2 : t.data.toList = []
    · have m1 := isEmpty_yes t h2
      have m2 : (!t.toList.isEmpty) = false := by rw [m1]; rfl
      have E := Lib.hid (joinR_2 h1 h2)
      clear h1 h2
      go_enter Tryd.func22, Tryd.ntmps22
      go_wp2
      go_ret
      exact ⟨ret_bytes E.out, rfl⟩
    · have m1 := isEmpty_no t h2
      have m2 : (!t.toList.isEmpty) = true := by rw [m1]; rfl
      have htp : 0 < t.size := by rw [← data_len]; exact List.length_pos_iff.2 h2
      have htI : (0 : Int) < (t.size : Int) := by omega
      have g0 : (1 : Int) ≤ (s.size : Int) := by omega
      have g1 : (0 : Int) ≤ (s.size : Int) - 1 := by omega
      have HP := Lib.hid (pre_byte t htp)
      have HS := Lib.hid (suf_byte s hsp)
      have H1 := Lib.hid h1
      have H2 := Lib.hid h2
      clear h1 h2
      go_enter Tryd.func22, Tryd.ntmps22
      go_wp2
      all_goals go_ret
      · exact ⟨ret_bytes (joinR_3 ‹_› HP.out), rfl⟩
      · exact ⟨ret_bytes (by rw [← joinR_4 H1.out H2.out ‹(((t[0]'htp).toNat : Int) == 47) = false› HP.out ‹_› HS.out]; simp), rfl⟩
      · exact ⟨ret_bytes (by rw [← joinR_5 H1.out H2.out ‹(((t[0]'htp).toNat : Int) == 47) = false› HP.out ‹(((s[s.size - 1]'(by omega)).toNat : Int) == 47) = false› HS.out]; simp), rfl⟩
end Go.Proofs.YtajleipangnfbaaDoor
