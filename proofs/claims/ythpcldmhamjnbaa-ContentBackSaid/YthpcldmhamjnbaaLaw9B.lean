/-
  What the statements on data ask of the program's calls; what stays small.
-/
import Derived.Test.YthpcldmhamjnbaaLaw9A
import Derived.Test.YthpcldmhamjnbaaCntRefB
namespace Go.Proofs.Ythpcldmhamjnbaa
open Go.RowKit Go.Shelf

/-- The program's calls, as the statements take them. -/
structure PC : Prop where
  read : ∀ (l : List NodeL) (most room i a n : Int) (v : Value) (W : World), Small l → GivesN l v W →
    Calls Try.prog 11 #[.agg #[v, .int .i64 most, .int .i64 room], .int .i64 i, .int .i64 a, .int .i64 n] W fun e w' => e = .returned (.tuple #[.string (bs (readL l i a n).1), .int .i64 (readL l i a n).2]) ∧ Below W.heap.size W w'
  size : ∀ (l : List NodeL) (most room i : Int) (v : Value) (W : World), Small l → GivesN l v W →
    Calls Try.prog 14 #[.agg #[v, .int .i64 most, .int .i64 room], .int .i64 i] W fun e w' => e = .returned (.tuple #[.int .i64 (sizeL l i).1, .int .i64 (sizeL l i).2]) ∧ Below W.heap.size W w'
  write : ∀ (l : List NodeL) (most room i a : Int) (s : Nm) (ao : Option Addr) (cap : Nat) (W : World), Small l → s.length ≤ 1000 → GivesN l (.slice ao l.length cap) W →
    Calls Try.prog 16 #[diskV ao l.length cap most room, .int .i64 i, .int .i64 a, .string (bs s)] W fun e w' => ChgX (fun _ => False) (writeL l room i a s).1 (writeL l room i a s).2 most room e W w'
  cut : ∀ (l : List NodeL) (most room i m : Int) (ao : Option Addr) (cap : Nat) (W : World), Small l → GivesN l (.slice ao l.length cap) W →
    Calls Try.prog 18 #[diskV ao l.length cap most room, .int .i64 i, .int .i64 m] W fun e w' => ChgX (fun _ => False) (cutL l room i m).1 (cutL l room i m).2 most room e W w'
  shown : ∀ W : World, Calls Try.prog 10 #[] W fun e w' => e = .returned (.bool true) ∧ Below W.heap.size W w'
theorem quiet_set {l : List NodeL} (h : smallQ l = true) (i : Int) (d : Nm) (hd : d.length ≤ 1500) : smallQ (setL l i (dataN (getL l i) d)) = true := by
  unfold smallQ at h ⊢
  simp only [Bool.and_eq_true, decide_eq_true_iff, List.all_eq_true] at h ⊢
  unfold setL
  split
  · rename_i hin
    refine ⟨by rw [List.length_set]; exact h.1, fun n hn => ?_⟩
    rcases List.mem_or_eq_of_mem_set hn with hn | rfl
    · exact h.2 n hn
    · refine ⟨hd, ?_⟩
      show (getL l i).names.length ≤ 60
      unfold getL
      split
      · unfold atI
        rcases Nat.lt_or_ge i.toNat l.length with h1 | h1
        · rw [List.getD_eq_getElem?_getD, List.getElem?_eq_getElem h1]; exact (h.2 _ (List.getElem_mem _)).2
        · rw [List.getD_eq_getElem?_getD, List.getElem?_eq_none h1]; exact Nat.zero_le _
      · exact Nat.zero_le _
  · exact h
theorem quiet_kept {l : List NodeL} (h : smallQ l = true) (room i : Int) (d : Nm) (hd : d.length ≤ 1500) : smallQ (keptL l room i d).1 = true := by
  unfold keptL
  split
  · exact h
  · exact quiet_set h i d hd
theorem data_quiet {l : List NodeL} (h : smallQ l = true) (i : Int) : (getL l i).data.length ≤ 1500 := by
  unfold smallQ at h
  simp only [Bool.and_eq_true, decide_eq_true_iff, List.all_eq_true] at h
  unfold getL
  split
  · unfold atI
    rcases Nat.lt_or_ge i.toNat l.length with h1 | h1
    · rw [List.getD_eq_getElem?_getD, List.getElem?_eq_getElem h1]; exact (h.2 _ (List.getElem_mem _)).1
    · rw [List.getD_eq_getElem?_getD, List.getElem?_eq_none h1]; exact Nat.zero_le _
  · exact Nat.zero_le _
/-- What is written, or cut, is no more to look at. -/
theorem quiet_write {l : List NodeL} (h : smallQ l = true) (room i a : Int) {s : Nm} (hs : s.length ≤ 400) : smallQ (writeL l room i a s).1 = true := by
  unfold writeL
  split
  · exact h
  · split
    · exact h
    · rename_i h2
      split
      · exact h
      · split
        · exact h
        · obtain ⟨j, rfl⟩ := Int.eq_ofNat_of_zero_le (show 0 ≤ a by omega)
          refine quiet_kept h room i _ ?_
          rw [putD_len]
          have := data_quiet h i
          omega
theorem quiet_cut {l : List NodeL} (h : smallQ l = true) (room i m : Int) : smallQ (cutL l room i m).1 = true := by
  unfold cutL
  split
  · exact h
  · split
    · exact h
    · split
      · refine quiet_kept h room i _ ?_
        rw [List.length_take]
        have := data_quiet h i
        omega
      · split
        · exact h
        · obtain ⟨j, rfl⟩ := Int.eq_ofNat_of_zero_le (show 0 ≤ m by omega)
          refine quiet_kept h room i _ ?_
          rw [pad_len]
          have := data_quiet h i
          omega
theorem quiet_len {l : List NodeL} (h : smallQ l = true) : l.length ≤ 10000 := Nat.le_trans (small_Q h).1 (by decide)
theorem quiet_names {l : List NodeL} (h : smallQ l = true) : ∀ n ∈ l, n.names.length ≤ 10000 := fun n hn => Nat.le_trans ((small_Q h).2 n hn).2 (by decide)
theorem wrotec {l : List NodeL} {most room i a : Int} {s : Nm} (h : smallQ l = true) (hs : s.length ≤ 1000) (ao : Option Addr) (cap : Nat) (W : World) (hg : GivesN l (.slice ao l.length cap) W) :
    Calls Try.prog 17 #[diskV ao l.length cap most room, .int .i64 i, .int .i64 a, .string (bs s)] W fun e w' => ChgX (fun _ => False) (writeL l room i a s).1 (writeL l room i a s).2 most room e W w' :=
  rwrite_c _ l most room i a s ao cap W old_no (gives_no hg) (small_Q h) hs
theorem cutc {l : List NodeL} {most room i m : Int} (h : smallQ l = true) (ao : Option Addr) (cap : Nat) (W : World) (hg : GivesN l (.slice ao l.length cap) W) :
    Calls Try.prog 19 #[diskV ao l.length cap most room, .int .i64 i, .int .i64 m] W fun e w' => ChgX (fun _ => False) (cutL l room i m).1 (cutL l room i m).2 most room e W w' :=
  rcut_c _ l most room i m ao cap W old_no (gives_no hg) (small_Q h)
end Go.Proofs.Ythpcldmhamjnbaa
