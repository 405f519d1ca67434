/-
  slices.Concat of nodes; slices.IndexFunc with free.
-/
import Derived.Test.YtknjmdgnbhohdaaDskH
namespace Go.Proofs.Ytknjmdgnbhohdaa
open Go.RowKit Go.Shelf
attribute [local go_sem ↓] Go.wp_at_zero Go.wp_at_succ

/-- Slices that are to be joined: each value, and what it reads as. -/
abbrev Src := Value × List NodeM
def allM (S : List Src) : List NodeM := (S.map (·.2)).flatten
theorem allM_succ (S : List Src) (k : Nat) (h : k < S.length) : allM (S.take (k + 1)) = allM (S.take k) ++ S[k].2 := by
  unfold allM
  rw [List.take_succ_eq_append_getElem h, List.map_append, List.flatten_append]
  simp
theorem allM_len (S : List Src) (hs : ∀ x ∈ S, x.2.length ≤ 10001) (h3 : S.length ≤ 3) (k : Nat) : (allM (S.take k)).length ≤ 30003 := by
  have main : ∀ S : List Src, (∀ x ∈ S, x.2.length ≤ 10001) → (allM S).length ≤ S.length * 10001 := by
    intro S
    induction S with
    | nil => intro _; exact Nat.le_refl _
    | cons a S ih =>
      intro h
      have h1 := ih fun x hx => h x (by simp [hx])
      have h2 := h a (by simp)
      have : (allM (a :: S)).length = a.2.length + (allM S).length := by simp [allM]
      rw [this, List.length_cons]
      omega
  have h1 := main (S.take k) fun x hx => hs x (List.mem_of_mem_take hx)
  have h2 : (S.take k).length ≤ 3 := by rw [List.length_take]; omega
  omega
/-- What the joining reads. -/
def SrcOk (B b off : Nat) (S : List Src) (w : World) : Prop := ∀ k (h : k < S.length), w.cell? ⟨b, off + k, none⟩ = some S[k].1 ∧ RdM B S[k].1 S[k].2 w
set_option maxRecDepth 100000 in
set_option maxHeartbeats 4000000 in
theorem concat_any (b off cap : Nat) (S : List Src) (w : World) (hb : b < w.heap.size) (hS : SrcOk w.heap.size b off S w) (hs : ∀ x ∈ S, x.2.length ≤ 10001) (h3 : S.length ≤ 3) :
    Calls Try.prog 46 #[.slice (some ⟨b, off, none⟩) S.length cap] w fun e w' => ∃ v, e = .returned v ∧ w'.ownsRow w.heap.size 43 8 v (allM S).length (cellsN (allM S)) ∧ Below w.heap.size w w' := by
  obtain ⟨i0, hi0, hz0, hz1, hz2⟩ := info_parts infoNode
  have HS := Lib.hid hS
  have HL := Lib.hid (allM_len S hs h3)
  clear hS hs
  go_enter Try.func46, Try.ntmps46
  go_wp2_with fail
  go_loop [3, 11] (fun z i => ∃ k : Nat, i = .int .i64 k ∧ k ≤ S.length ∧ z = .int .i64 (allM (S.take k)).length) (fun _ i => S.length - (intOf i).toNat)
  case atStart => exact ⟨0, rfl, Nat.zero_le _, rfl⟩
  case round =>
    obtain ⟨k, rfl, hk, rfl⟩ := hrel
    have hkl := HL.out k
    by_cases hlt : k < S.length
    · obtain ⟨hc0, hr⟩ := HS.out k hlt
      have hl1 : Hid ((allM (S.take (k + 1))).length = (allM (S.take k)).length + S[k].2.length) := Lib.hid (by rw [allM_succ S k hlt, List.length_append])
      have hkl1 := HL.out (k + 1)
      rw [hl1.out] at hkl1
      obtain ⟨ao, cap', e, _, _⟩ := rdm_form hr
      rw [e] at hc0
      clear e hr
      generalize (allM (S.take k)).length = z at *
      generalize S[k].2.length = y at *
      go_wp2_with fail
      go_round
      case rel => exact ⟨k + 1, by go_num, hlt, by rw [hl1.out]; go_num⟩
      case measure => simp [intOf]; omega
    · have hke : k = S.length := by omega
      have HT : Hid (S.take k = S) := Lib.hid (by rw [hke, List.take_length])
      have hI2 : decide (k < S.length) = false := by simp; omega
      rw [HT.out] at hkl ⊢
      clear hke hlt
      go_wp2_with fail
      refine (grow_any (allM S).length (by omega) _).mono ?_
      rintro e w1 ⟨v, rfl, hown, hb1⟩
      have HO := Lib.hid hown
      have HB := Lib.hid hb1
      clear hown hb1
      go_wp2_with fail
      go_loopw [6, 27] (fun o i wr => ∃ k : Nat, i = .int .i64 k ∧ k ≤ S.length ∧ wr.ownsRow w.heap.size 43 8 o (allM (S.take k)).length (cellsN (allM (S.take k))) ∧ Below w.heap.size w wr) (fun _ i _ => S.length - (intOf i).toNat)
      case atStart => exact ⟨0, rfl, Nat.zero_le _, HO.out, HB.out⟩
      case round =>
        obtain ⟨k, rfl, hk, hown, hBr⟩ := hrel
        have sB := hBr.size
        by_cases hlt : k < S.length
        · obtain ⟨hc0, hr⟩ := HS.out k hlt
          have hc1 := (hBr.cell (p := ⟨b, off + k, none⟩) hb).trans hc0
          have hl1 : Hid ((allM (S.take (k + 1))).length = (allM (S.take k)).length + S[k].2.length) := Lib.hid (by rw [allM_succ S k hlt, List.length_append])
          have he1 : Hid (cellsN (allM (S.take (k + 1))) = cellsN (allM (S.take k)) ++ cellsN S[k].2) := Lib.hid (by rw [allM_succ S k hlt, cellsN_app])
          have hkl1 := HL.out (k + 1)
          rw [hl1.out] at hkl1
          have hr1 := Lib.hid (hr.below hBr).1
          have HO1 := Lib.hid (cellsN_one hr.one)
          obtain ⟨ao, cap', e, _, _⟩ := rdm_form hr
          rw [e] at hc1 hr1
          clear e hr hc0
          generalize (allM (S.take k)).length = z at *
          generalize S[k].2 = y at *
          go_wp2_with (at_builtin; go_loud (refine wpList_append_rd rfl (.tmp 31) (.tmp 32) 22 rfl w.heap.size 43 i0 _ 8 88 Try.underlying22 hi0 hz0 hz1 hz2 rfl (by decide) _ z _ rfl hown w.heap.size _ y.length (cellsN y) rfl hr1.out HO1.out (by unfold maxLen; omega) (by omega) sB ?_))
          intro v3 w3 ho3 hgr3
          have hB3 : Below w.heap.size w w3 := hBr.grown hgr3 sB (fun j ej => (hown.lt j ej).1)
          rw [← he1.out, ← hl1.out] at ho3
          go_wp2_with fail
          go_roundw
          case rel => exact ⟨k + 1, by go_num, hlt, ho3, hB3⟩
          case measure => simp [intOf]; omega
        · have hke : k = S.length := by omega
          have HT2 : Hid (S.take k = S) := Lib.hid (by rw [hke, List.take_length])
          have hI2 : decide (k < S.length) = false := by simp; omega
          rw [HT2.out] at hown
          clear hke hlt
          go_wp2_with fail
          go_ret
          exact ⟨_, rfl, hown, hBr⟩
/-- The first node that is free, counted from k; or -1. -/
def idxL : List NodeL → Nat → Int
  | [], _ => -1
  | n :: l, k => if n.kind = 0 then k else idxL l (k + 1)
theorem idx_drop (l : List NodeL) (k : Nat) (h : k < l.length) : idxL (l.drop k) k = if l[k].kind = 0 then (k : Int) else idxL (l.drop (k + 1)) (k + 1) := by
  rw [List.drop_eq_getElem_cons h]
  rfl
set_option maxRecDepth 100000 in
set_option maxHeartbeats 1000000 in
theorem index_any (v : Value) (ms : List NodeM) (w : World) (hv : RdM w.heap.size v ms w) (hl : ms.length ≤ 10000) :
    Calls Try.prog 45 #[v, .func (.func 26) #[] #[]] w fun e w' => e = .returned (.int .i64 (idxL (pl ms) 0)) ∧ Below w.heap.size w w' := by
  obtain ⟨ao, cap, rfl, _, _⟩ := rdm_form hv
  have HV := Lib.hid hv
  clear hv
  go_enter Try.func45, Try.ntmps45
  go_wp2_with fail
  go_loopw [8] (fun i wr => ∃ k : Nat, i = .int .i64 k ∧ k ≤ ms.length ∧ Hid (idxL (pl ms) 0 = idxL ((pl ms).drop k) k) ∧ Below w.heap.size w wr) (fun i _ => ms.length - (intOf i).toNat)
  case atStart => exact ⟨0, rfl, Nat.zero_le _, Lib.hid rfl, Below.refl _ _⟩
  case round =>
    obtain ⟨k, rfl, hk, hI, hBr⟩ := hrel
    have sB := hBr.size
    by_cases hlt : k < ms.length
    · obtain ⟨b, off, n, aon, capn, rfl, hb, hn, -, -, c0, c1, c2, c3, c4, c5, c6, c7⟩ := node_at (HV.out.below hBr) k hlt
      have hs := hI.out.trans (idx_drop (pl ms) k (by rw [pl_len]; exact hlt))
      rw [hn] at hs
      clear hn
      by_cases h0 : n.kind = 0
      · have hd : decide (n.kind = 0) = true := by simpa using h0
        rw [if_pos h0] at hs
        have HS := Lib.hid hs
        clear h0 hs
        go_wp2_with fail
        refine (free_any n _ _).mono ?_
        rintro e w1 ⟨rfl, hb2⟩
        rw [hd]
        have hb3 := ret_tr hBr hb2
        go_wp2_with fail
        go_ret
        exact ⟨ret_int HS.out.symm, hb3⟩
      · have hd : decide (n.kind = 0) = false := by simpa using h0
        rw [if_neg h0] at hs
        have HS := Lib.hid hs
        clear h0 hs
        go_wp2_with fail
        refine (free_any n _ _).mono ?_
        rintro e w1 ⟨rfl, hb2⟩
        rw [hd]
        have hb3 := ret_tr hBr hb2
        go_wp2_with fail
        go_roundw
        case rel => exact ⟨k + 1, by go_num, hlt, HS, hb3⟩
        case measure => simp [intOf]; omega
    · have hke : k = ms.length := by omega
      have HF : Hid (idxL (pl ms) 0 = -1) := Lib.hid (by rw [hI.out, List.drop_of_length_le (by rw [pl_len]; omega)]; rfl)
      have hI2 : decide (k < ms.length) = false := by simp; omega
      clear hke hlt
      go_wp2_with fail
      go_ret
      exact ⟨ret_int HF.out.symm, hBr⟩
end Go.Proofs.Ytknjmdgnbhohdaa
