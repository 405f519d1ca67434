/-
  route: Base, Dir, Join.
-/
import Derived.Test.YtajleipangnfbaaDoorRouteE
namespace Go.Proofs.YtajleipangnfbaaDoor
open Go.RowKit Go.Shelf

set_option maxHeartbeats 400000 in
theorem cut_empty (s em : ByteArray) (h : s.data.toList = []) (v : Value) (w : World) :
    Calls Tryd.prog 27 #[.string s, .string em, v] w fun e W' => e = .returned (.string em) ∧ W' = w := by
  have n1 := isEmpty_yes s h
  clear h
  go_enter Tryd.func27, Tryd.ntmps27
  go_wp2
  go_ret
  exact ⟨rfl, rfl⟩

set_option maxHeartbeats 400000 in
theorem base_any (s : ByteArray) (hs : s.size ≤ 65000) (w : World) :
    Calls Tryd.prog 17 #[.string s] w fun e W' => e = .returned (.string ⟨(baseL s.data.toList).toArray⟩) ∧ Below w.heap.size w W' := by
  have hbox := (Boxed.new w 9 (.string s)).cell
  by_cases h : s.data.toList = []
  · have E : Hid (baseL s.data.toList = []) := Lib.hid (by unfold baseL; rw [if_pos h])
    go_enter Tryd.func17, Tryd.ntmps17
    go_wp2_with (go_at_call 27; refine (cut_empty _ _ h _ _).mono ?_; rintro e w' ⟨rfl, rfl⟩)
    go_ret
    exact ⟨by rw [E.out]; rfl, (Below.refl _ _).alloc (Nat.le_refl _) _⟩
  · have H := Lib.hid h
    clear h
    go_enter Tryd.func17, Tryd.ntmps17
    go_wp2_with (go_at_call 27; refine (cut_base _ _ hs H.out _ _ (by simp) hbox).mono ?_; rintro e w' ⟨rfl, hb⟩)
    go_ret
    exact ⟨rfl, ((Below.refl _ w).alloc (Nat.le_refl _) _).trans (hb.mono (by simp))⟩

set_option maxHeartbeats 400000 in
theorem dir_any (s : ByteArray) (hs : s.size ≤ 65000) (w : World) :
    Calls Tryd.prog 19 #[.string s] w fun e W' => e = .returned (.string ⟨(dirL s.data.toList).toArray⟩) ∧ Below w.heap.size w W' := by
  have hbox := (Boxed.new w 9 (.string s)).cell
  by_cases h : s.data.toList = []
  · have E : Hid (dirL s.data.toList = [46]) := Lib.hid (by unfold dirL; rw [if_pos h])
    go_enter Tryd.func19, Tryd.ntmps19
    go_wp2_with (go_at_call 27; refine (cut_empty _ _ h _ _).mono ?_; rintro e w' ⟨rfl, rfl⟩)
    go_ret
    exact ⟨by rw [E.out]; rfl, (Below.refl _ _).alloc (Nat.le_refl _) _⟩
  · have H := Lib.hid h
    clear h
    go_enter Tryd.func19, Tryd.ntmps19
    go_wp2_with (go_at_call 27; refine (cut_dir _ _ hs H.out _ _ (by simp) hbox).mono ?_; rintro e w' ⟨rfl, hb⟩)
    go_ret
    exact ⟨rfl, ((Below.refl _ w).alloc (Nat.le_refl _) _).trans (hb.mono (by simp))⟩

/-- Two paths joined. -/
def joinL (a b : List UInt8) : List UInt8 :=
  if a = [] ∨ Lib.hasPrefix b [47] = true then b else if b = [] then a else if Lib.hasSuffix a [47] = true then a ++ b else a ++ [47] ++ b

theorem ret_bytes {t : ByteArray} {l : List UInt8} (h : t.data.toList = l) : Ending.returned (.string t) = .returned (.string ⟨l.toArray⟩) := by subst h; simp
theorem isEmpty_iff (s : ByteArray) (b : Bool) (h : s.toList.isEmpty = b) : (s.data.toList = []) ↔ b = true := by
  rw [Lib.toList_data] at h; rw [← h]; simp
theorem join_1 {s t : ByteArray} (h : s.toList = []) : t.data.toList = joinL s.data.toList t.data.toList := by
  unfold joinL; rw [if_pos (.inl (by rw [← Lib.toList_data]; exact h))]
theorem join_2 {s t : ByteArray} (h : s.toList.isEmpty = true ∨ Lib.hasPrefix t.data.toList [47] = true) : t.data.toList = joinL s.data.toList t.data.toList := by
  unfold joinL; rw [if_pos (h.imp (fun h => (isEmpty_iff s _ h).2 rfl) id)]
theorem join_n {s t : ByteArray} (h : s.toList.isEmpty = false ∧ Lib.hasPrefix t.data.toList [47] = false) : ¬ (s.data.toList = [] ∨ Lib.hasPrefix t.data.toList [47] = true) := by
  rintro (h1 | h1)
  · cases (isEmpty_iff s _ h.1).1 h1
  · rw [h.2] at h1; cases h1
theorem join_3 {s t : ByteArray} (h : s.toList.isEmpty = false ∧ Lib.hasPrefix t.data.toList [47] = false) (h2 : t.toList.isEmpty = true) : s.data.toList = joinL s.data.toList t.data.toList := by
  unfold joinL; rw [if_neg (join_n h), if_pos ((isEmpty_iff t _ h2).2 rfl)]
theorem join_4 {s t : ByteArray} (h : s.toList.isEmpty = false ∧ Lib.hasPrefix t.data.toList [47] = false) (h2 : t.toList.isEmpty = false) (h3 : Lib.hasSuffix s.data.toList [47] = true) : (s ++ t).data.toList = joinL s.data.toList t.data.toList := by
  unfold joinL; rw [if_neg (join_n h), if_neg (fun e => by cases (isEmpty_iff t _ h2).1 e), if_pos h3]; simp
theorem join_5 {s t : ByteArray} (h : s.toList.isEmpty = false ∧ Lib.hasPrefix t.data.toList [47] = false) (h2 : t.toList.isEmpty = false) (h3 : Lib.hasSuffix s.data.toList [47] = false) : (s ++ ⟨#[47]⟩ ++ t).data.toList = joinL s.data.toList t.data.toList := by
  unfold joinL; rw [if_neg (join_n h), if_neg (fun e => by cases (isEmpty_iff t _ h2).1 e), if_neg (by rw [h3]; decide)]; simp

set_option maxHeartbeats 400000 in
theorem join_any (s t : ByteArray) (hs : s.size ≤ 65000) (ht : t.size ≤ 65000) (w : World) :
    Calls Tryd.prog 21 #[.string s, .string t] w fun e W' => e = .returned (.string ⟨(joinL s.data.toList t.data.toList).toArray⟩) ∧ W' = w := by
  go_enter Tryd.func21, Tryd.ntmps21
  go_wp2_with (first | (go_at_call 25; refine (Tryd.strings_HasSuffix _ _ _ (by omega)).mono ?_; rintro e w' ⟨rfl, rfl⟩) | (go_at_call 24; refine (Tryd.strings_HasPrefix _ _ _).mono ?_; rintro e w' ⟨rfl, rfl⟩))
  all_goals go_ret
  · exact ⟨ret_bytes (join_1 ‹_›), rfl⟩
  · exact ⟨ret_bytes (join_2 ‹_›), rfl⟩
  · exact ⟨ret_bytes (join_3 ‹_› ‹_›), rfl⟩
  · exact ⟨ret_bytes (join_4 ‹_› ‹_› ‹_›), rfl⟩
  · exact ⟨ret_bytes (join_5 ‹_› ‹_› ‹_›), rfl⟩
end Go.Proofs.YtajleipangnfbaaDoor
