/-
  route: partEnd, spans and its iterator.
-/
import Derived.Test.YtajleipangnfbaaDoorKit
import Derived.Test.YtajleipangnfbaaDoorShelf
import Derived.Test.YtajleipangnfbaaDoorRoutePlain
namespace Go.Proofs.YtajleipangnfbaaDoor
open Go.RowKit Go.Shelf
attribute [local go_sem] Oper.semAt_some wide_fn wide_depth

set_option maxHeartbeats 400000 in
theorem partEnd_any (s : ByteArray) (k : Nat) (w : World) (hk : k ≤ s.size) (hs : s.size ≤ 65000) :
    Calls Tryd.prog 33 #[.string s, .int .i64 k] w fun e w' => e = .returned (.int .i64 (pend s.data.toList k)) ∧ w = w' := by
  by_cases hm : (47 : UInt8) ∈ s.data.toList.drop k
  · have h0 := index_yes _ _ hm
    have h1 := pend_yes _ _ hm
    have h2 := pend_le s.data.toList k (by rw [data_len]; exact hk)
    rw [data_len] at h2
    rw [← take_drop] at h0 h1
    have h3 : (k : Int) + Lib.indexByte (List.take (s.size - k) (List.drop k s.data.toList)) 47 ≤ 65000 := by omega
    have H := Lib.hid h1
    clear h1 h2 hm
    go_enter Tryd.func33, Tryd.ntmps33
    go_wp2_with (go_at_call 26; refine (Tryd.strings_IndexByte _ _ _).mono ?_; rintro e w' ⟨rfl, rfl⟩)
    go_ret
    exact ⟨ret_int H.out, rfl⟩
  · have h0 : Lib.indexByte (List.take (s.size - k) (List.drop k s.data.toList)) 47 < 0 := by rw [take_drop, index_no _ _ hm]; decide
    have h1 := pend_no s.data.toList k (by rw [data_len]; exact hk) hm
    rw [data_len] at h1
    have H := Lib.hid h1
    clear h1 hm
    go_enter Tryd.func33, Tryd.ntmps33
    go_wp2_with (go_at_call 26; refine (Tryd.strings_IndexByte _ _ _).mono ?_; rintro e w' ⟨rfl, rfl⟩)
    go_ret
    exact ⟨ret_int H.out, rfl⟩

/-- A span within a path. -/
abbrev Span (s : ByteArray) := { p : Nat × Nat // p.1 < p.2 ∧ p.2 ≤ s.size }
abbrev encP {s : ByteArray} (p : Span s) : Array Value := #[.int .i64 p.1.1, .int .i64 p.1.2]

set_option maxRecDepth 100000 in
set_option maxHeartbeats 1000000 in
theorem spansIt (s : ByteArray) (hs : s.size ≤ 65000) (l Bn n : Nat) (J Jx : List (Span s) → World → Prop)
    (hY : ∀ pre x W, J pre W → pre.length < (spans s.data.toList).length → YieldAt Fence.wide (n - 1) Tryd.prog l (encP x) W fun e W' =>
      (e = .returned (.bool true) ∧ J (pre ++ [x]) W' ∧ KeepsBox Bn W W') ∨ (e = .returned (.bool false) ∧ Jx (pre ++ [x]) W'))
    (W : World) (hBn : W.cell? ⟨Bn, 0, none⟩ = some (.string s)) (h0 : J [] W) :
    CallsIn Fence.wide n Tryd.prog 32 #[.func (.yield l) #[] #[], .pointer (some ⟨Bn, 0, none⟩)] W fun e W' => (∃ v, e = .returned v) ∧
      ((∃ ys : List (Span s), ys.map (·.1) = spans s.data.toList ∧ J ys W') ∨ (∃ pre : List (Span s), pre.map (·.1) <+: spans s.data.toList ∧ Jx pre W')) := by
  refine callsIn_of_wp Tryd.func32 rfl trivial ?_ rfl
  simp only [Tryd.ntmps32, List.size_toArray, List.length_cons, List.length_nil, Nat.reduceAdd, Nat.reduceSub, Array.replicate_succ, Array.replicate_zero, List.push_toArray, List.append_toArray, List.nil_append, List.cons_append]
  gi_wp2
  gi_loopw [3] (fun i wr => ∃ (pre : List (Span s)) (k : Nat), i = .int .i64 k ∧ k ≤ s.size ∧ pre.map (·.1) ++ sp k none (s.data.toList.drop k) = spans s.data.toList ∧ wr.cell? ⟨Bn, 0, none⟩ = some (.string s) ∧ J pre wr)
    (fun i _ => s.size - (intOf i).toNat)
  case atStart => exact ⟨[], 0, rfl, Nat.zero_le _, rfl, hBn, h0⟩
  case round =>
    obtain ⟨pre, k, rfl, hk, hpre, hB, hJ⟩ := hrel
    have Hpre := Lib.hid hpre
    clear hpre
    by_cases hlt : k < s.size
    · by_cases hc : s[k] = 47
      · have hcI : ((s[k].toNat : Int) == 47) = true := by rw [hc]; rfl
        have Hc := Lib.hid hc
        clear hc
        gi_wp2
        go_roundw
        case rel => exact ⟨pre, k + 1, by go_num, by omega, by rw [← sp_slash _ _ (by rw [data_len]; exact hlt) Hc.out]; exact Hpre.out, hB, hJ⟩
        case measure => simp [intOf]; omega
      · have hcI : ((s[k].toNat : Int) == 47) = false := by
          rw [beq_eq_false_iff_ne]; intro h; exact hc (UInt8.toNat_inj.1 (by have e : (47 : UInt8).toNat = 47 := rfl; omega))
        have hpe := pend_le s.data.toList k (by rw [data_len]; omega)
        rw [data_len] at hpe
        have hpg := pend_gt s.data.toList k (by rw [data_len]; exact hlt) hc
        have hsp := Hpre.out
        rw [sp_part _ _ (by rw [data_len]; exact hlt) hc] at hsp
        have hln : pre.length < (spans s.data.toList).length := by rw [← hsp]; simp
        have hpx : k < pend s.data.toList k ∧ pend s.data.toList k ≤ s.size := ⟨hpg, hpe⟩
        obtain ⟨fn, tmps, assign, body, hy, hR⟩ := hY pre ⟨(k, pend s.data.toList k), hpx⟩ wr hJ hln
        have Hsp := Lib.hid hsp
        clear hsp hc hln
        dsimp only [encP] at hy
        gi_wp2_with (gi_at_call 33; refine (callsIn_wide.2 (partEnd_any _ _ _ (by omega) (by omega))).mono ?_; rintro e w' ⟨rfl, rfl⟩)
        refine hR.mono ?_
        rintro e W3 (⟨rfl, hJ3, hk3⟩ | ⟨rfl, hJx3⟩)
        · have hB3 : W3.cell? ⟨Bn, 0, none⟩ = some (.string s) := Eq.trans hk3 hB
          gi_wp2
          go_roundw
          case rel => exact ⟨pre ++ [⟨(k, pend s.data.toList k), hpx⟩], pend s.data.toList k, rfl, hpe, by simpa using Hsp.out, hB3, hJ3⟩
          case measure => simp [intOf]; omega
        · gi_wp2
          refine bodyPost_ret (results_none rfl _ _ _) rfl ?_
          exact ⟨⟨_, rfl⟩, .inr ⟨pre ++ [⟨(k, pend s.data.toList k), hpx⟩], ⟨_, by simpa using Hsp.out⟩, hJx3⟩⟩
    · obtain rfl : k = s.size := by omega
      gi_wp2
      go_end0
      refine ⟨⟨_, rfl⟩, .inl ⟨pre, ?_, hJ⟩⟩
      have e : sp s.size none (s.data.toList.drop s.size) = [] := by have := sp_end s.data.toList; rwa [data_len] at this
      have := Hpre.out
      rw [e] at this
      simpa using this

theorem spans_any (s : ByteArray) (w : World) :
    Calls Tryd.prog 23 #[.string s] w fun e w' => e = .returned (.func (.func 32) #[] #[.pointer (some ⟨w.heap.size, 0, none⟩)]) ∧ w' = w.alloc (.cells #[.string s] 9) := by
  go_enter Tryd.func23, Tryd.ntmps23
  go_wp2
  go_ret
  exact ⟨rfl, rfl⟩

theorem spans_stops (s : ByteArray) (hs : s.size ≤ 65000) (n Bn : Nat) (w : World) (hBn : Bn < w.heap.size) (hc : w.cell? ⟨Bn, 0, none⟩ = some (.string s)) :
    SeqStopsK Fence.wide n Tryd.prog 32 #[.pointer (some ⟨Bn, 0, none⟩)] (encP (s := s)) (KeepsBox Bn) (fun ys => ys.map (·.1) = spans s.data.toList) (fun pre => pre.map (·.1) <+: spans s.data.toList) (spans s.data.toList).length w := fun l J Jx W hW _ _ hY h0 =>
  spansIt s hs l Bn n J Jx hY W ((hW.cell (p := ⟨Bn, 0, none⟩) hBn).trans hc) h0
end Go.Proofs.YtajleipangnfbaaDoor
