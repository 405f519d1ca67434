/-
  What the program's Write and Cut make of a file's data.
-/
import Derived.Test.YthpcldmhamjnbaaCntPrgB
import Derived.Deep.RegionHeld3
namespace Go.Proofs.Ythpcldmhamjnbaa
open Go.RowKit Go.Shelf
attribute [local go_sem ↓] Go.wp_at_zero Go.wp_at_succ

/-- What a maker of data tells: the data, if there is room for it. -/
def MadeIs (M : Option Nm) (e : Ending) (w w' : World) : Prop :=
  ∃ ao cap, e = .returned (.tuple #[.slice ao (M.getD []).length cap, .bool M.isSome]) ∧ BytesV (M.getD []) (.slice ao (M.getD []).length cap) w' ∧ Below w.heap.size w w'
theorem below_bytesWorld (w : World) (e : TypeId) (s : ByteArray) : Below w.heap.size w (Lib.bytesWorld w e s) := ⟨rfl, rfl, rfl, by rw [Lib.bytesWorld_size]; omega, fun k hk => Lib.bytesWorld_at_old w e s k hk⟩
theorem bytesV_world (w : World) (e : TypeId) (d : Nm) (hd : d.length ≤ 100000) : BytesV d (.slice (some ⟨w.heap.size, 0, none⟩) d.length (grownCap w d.length 0 e)) (Lib.bytesWorld w e (bs d)) := by
  have h := Lib.bytesWorld_at_new w e (bs d)
  have hc : Lib.bytesCells w e (bs d) = (byteC d ++ List.replicate (grownCap w d.length 0 e - d.length) (Value.int .u8 0)).toArray := by
    unfold Lib.bytesCells byteC
    rw [bs_size]
    simp
  rw [hc] at h
  exact bytesV_row h (grownCap_ge _ _ _ _) (grownCap_le_maxLen _ _ _ _ (by unfold maxLen; omega))
theorem made_no (w W : World) (hb : Below w.heap.size w W) : MadeIs none (.returned (.tuple #[.slice none 0 0, .bool false])) w W := ⟨_, _, rfl, bytesV_none W, hb⟩
theorem made_row {g : Nat} {d : Nm} {k : Nat} {t : TypeId} {w W : World} (h : W.heap[g]? = some (.cells (byteC d).toArray t (0, 0))) (hk : d.length = k) (hm : k ≤ 100000) (hb : Below w.heap.size w W) : MadeIs (some d) (.returned (.tuple #[.slice (some ⟨g, 0, none⟩) k k, .bool true])) w W := by
  subst hk
  exact ⟨_, _, rfl, bytesV_row (cs := []) (by rw [List.append_nil]; exact h) (Nat.le_refl _) (by unfold maxLen; omega), hb⟩
theorem putD_sized (d s : Nm) (a : Nat) : (sizedD d (max d.length (a + s.length))).take a ++ s ++ (sizedD d (max d.length (a + s.length))).drop (a + s.length) = putD d s a := by
  have hS : ∀ k, (sizedD d (max d.length (a + s.length)))[k]? = if k < d.length then d[k]? else if k < a + s.length then some 0 else none := fun k => by
    unfold sizedD
    rw [List.take_of_length_le (by omega), List.getElem?_append, List.getElem?_replicate]
    split
    · rfl
    · rename_i h1
      split <;> split <;> first | rfl | (exfalso; omega)
  have hl := sized_len d (max d.length (a + s.length))
  apply List.ext_getElem?
  intro k
  rw [putD_get]
  have h1 : ((sizedD d (max d.length (a + s.length))).take a).length = a := by rw [List.length_take, hl]; omega
  rw [List.getElem?_append, List.getElem?_append, List.length_append, h1]
  by_cases h : k < a
  · have h3 : k < a + s.length := by omega
    simp only [h, h3, ↓reduceIte, List.getElem?_take]
    rw [hS, pad_get]
    split
    · rfl
    · first | rfl | rw [if_pos h3, if_pos h]
  · by_cases h2 : k < a + s.length
    · simp only [h, h2, ↓reduceIte]
    · simp only [h, h2, ↓reduceIte, List.getElem?_drop]
      rw [hS, pad_get, show a + s.length + (k - (a + s.length)) = k by omega]
      split
      · rfl
      · first | rfl | rw [if_neg h2, if_neg h]
/-- What Write makes. -/
def madeW (d s : Nm) (a : Nat) : Option Nm := if s = [] then some d else if 1000 < a then none else some (putD d s a)
/-- What Cut makes. -/
def madeC (d : Nm) (k : Nat) : Option Nm := if d.length < k ∧ 1000 < k then none else some (sizedD d k)
set_option maxRecDepth 100000 in
set_option maxHeartbeats 4000000 in
theorem pcut1_c (d : Nm) (m : Int) (k bN : Nat) (hm : m = k) (w : World) (hN : w.cell? ⟨bN, 0, none⟩ = some (.int .i64 m)) (hd : d.length ≤ 2000) :
    Calls Try.prog 32 #[.string (bs d), .pointer (some ⟨bN, 0, none⟩)] w fun e w' => MadeIs (madeC d k) e w w' := by
  subst hm
  go_enter Try.func32, Try.ntmps32
  by_cases h1 : (d.length : Int) < (k : Int)
  · have i1 : decide ((d.length : Int) < (k : Int)) = true := decide_eq_true h1
    have i2 : decide (d.length < k) = true := decide_eq_true (by omega)
    by_cases h2 : (1000 : Int) < (k : Int)
    · have i3 : decide ((1000 : Int) < (k : Int)) = true := decide_eq_true h2
      have i4 : decide (1000 < k) = true := decide_eq_true (by omega)
      have HR : Hid (madeC d k = none) := Lib.hid (if_pos ⟨by omega, by omega⟩)
      clear h1 h2
      go_wp2_with fail
      go_ret2
      rw [HR.out]
      exact made_no w _ (Below.refl _ _)
    · have i3 : decide ((1000 : Int) < (k : Int)) = false := decide_eq_false h2
      have i4 : decide (1000 < k) = false := decide_eq_false (by omega)
      have HR : Hid (madeC d k = some (sizedD d k)) := Lib.hid (if_neg (by omega))
      have HK : Hid (k ≤ 100000) := Lib.hid (by omega)
      clear h1 h2
      go_wp2_with fail
      refine (sized_c d k HK.out _).mono ?_
      rintro e W2 ⟨rfl, hg, hs, hb⟩
      have HG := Lib.hid hg
      have HB := Lib.hid hb
      clear hg hs hb
      go_wp2_with fail
      go_ret2
      rw [HR.out]
      exact made_row HG.out (sized_len d k) HK.out HB.out
  · have i1 : decide ((d.length : Int) < (k : Int)) = false := decide_eq_false h1
    have i2 : decide (d.length < k) = false := decide_eq_false (by omega)
    have HR : Hid (madeC d k = some (sizedD d k)) := Lib.hid (if_neg (by omega))
    have HK : Hid (k ≤ 100000) := Lib.hid (by omega)
    clear h1
    go_wp2_with fail
    refine (sized_c d k HK.out _).mono ?_
    rintro e W2 ⟨rfl, hg, hs, hb⟩
    have HG := Lib.hid hg
    have HB := Lib.hid hb
    clear hg hs hb
    go_wp2_with fail
    go_ret2
    rw [HR.out]
    exact made_row HG.out (sized_len d k) HK.out HB.out
set_option maxRecDepth 100000 in
set_option maxHeartbeats 4000000 in
theorem pwrite1_c (d s : Nm) (m : Int) (a bS bA : Nat) (hm : m = a) (w : World) (hS : w.cell? ⟨bS, 0, none⟩ = some (.string (bs s))) (hA : w.cell? ⟨bA, 0, none⟩ = some (.int .i64 m)) (lS : bS < w.heap.size) (lA : bA < w.heap.size) (hd : d.length ≤ 2000) (hs : s.length ≤ 1000) :
    Calls Try.prog 28 #[.string (bs d), .pointer (some ⟨bS, 0, none⟩), .pointer (some ⟨bA, 0, none⟩)] w fun e w' => MadeIs (madeW d s a) e w w' := by
  subst hm
  go_enter Try.func28, Try.ntmps28
  by_cases h0 : s = []
  · subst h0
    have HR : Hid (madeW d [] a = some d) := Lib.hid (if_pos rfl)
    have hcv := Lib.run_convert_string_bytes (P := Try.prog) w 9 66 5 (bs d) Try.underlying9 Try.underlying66 Try.underlying5
    rw [bs_size] at hcv
    have HV := Lib.hid (bytesV_world w 5 d (by omega))
    have HB := Lib.hid (below_bytesWorld w 5 (bs d))
    obtain ⟨W1, hW⟩ : ∃ W1, W1 = Lib.bytesWorld w 5 (bs d) := ⟨_, rfl⟩
    obtain ⟨cp, hcp⟩ : ∃ cp, cp = grownCap w d.length 0 5 := ⟨_, rfl⟩
    rw [← hW] at HV HB hcv
    rw [← hcp] at HV hcv
    clear hW hcp
    go_wp2_with fail
    go_ret2
    rw [HR.out]
    exact ⟨_, _, rfl, HV.out, HB.out⟩
  · have e1 : (s == []) = false := by simpa using h0
    have e2 : s.isEmpty = false := by simpa using h0
    have e3 : decide (s = []) = false := decide_eq_false h0
    have hpos : 0 < s.length := List.length_pos_iff.2 h0
    by_cases h2 : (1000 : Int) < (a : Int)
    · have i3 : decide ((1000 : Int) < (a : Int)) = true := decide_eq_true h2
      have i4 : decide (1000 < a) = true := decide_eq_true (by omega)
      have HR : Hid (madeW d s a = none) := Lib.hid (by unfold madeW; rw [if_neg h0, if_pos (by omega)])
      clear h2 h0 hpos
      go_wp2_with fail
      go_ret2
      rw [HR.out]
      exact made_no w _ (Below.refl _ _)
    · have i3 : decide ((1000 : Int) < (a : Int)) = false := decide_eq_false h2
      have i4 : decide (1000 < a) = false := decide_eq_false (by omega)
      have HR : Hid (madeW d s a = some (putD d s a)) := Lib.hid (by unfold madeW; rw [if_neg h0, if_neg (by omega)])
      have w1 : IntKind.i64.wrap ((a : Int) + (s.length : Int)) = (a : Int) + (s.length : Int) := Go.IntWalk.i64_in _ (by omega)
      obtain ⟨K, hK⟩ : ∃ K, K = max d.length (a + s.length) := ⟨_, rfl⟩
      have hmx : max (d.length : Int) ((a : Int) + (s.length : Int)) = (K : Int) := by omega
      have HK : Hid (K ≤ 100000) := Lib.hid (by omega)
      have HKs : Hid (a + s.length ≤ K) := Lib.hid (by omega)
      have HKe := Lib.hid hK
      have HP := Lib.hid hpos
      have HLS := Lib.hid lS
      have HLA := Lib.hid lA
      have HS := Lib.hid hS
      have HA := Lib.hid hA
      clear h2 h0 hpos hK lS lA
      go_wp2_with fail
      refine (sized_c d K HK.out w).mono ?_
      rintro e W2 ⟨rfl, hg, hs2, hb⟩
      have hS2 : W2.cell? ⟨bS, 0, none⟩ = some (.string (bs s)) := (hb.cell (p := ⟨bS, 0, none⟩) HLS.out).trans HS.out
      have hA2 : W2.cell? ⟨bA, 0, none⟩ = some (.int .i64 (a : Int)) := (hb.cell (p := ⟨bA, 0, none⟩) HLA.out).trans HA.out
      have HG := Lib.hid hg
      have HB := Lib.hid hb
      clear hg hs2 hb hS hA
      go_upto_region 1 with (fail)
      have hsl : ∀ W : World, (Instr.slice 66 (.slice (some ⟨w.heap.size, 0, none⟩) K K) (some (.int .i64 (a : Int))) none none).run Try.prog W = .ok (.slice (some ⟨w.heap.size, a, none⟩) (K - a) (K - a)) W := fun W => by
        rw [run_cut (P := Try.prog) 66 5 (some ⟨w.heap.size, 0, none⟩) K K a (a : Int) W Try.underlying66 (by kernel_rfl) rfl (by have := HKs.out; omega)]
        have : ¬ K = a := by have h1 := HKs.out; have h2 := HP.out; omega
        unfold cutA
        rw [if_neg this]
        simp only [Option.map_some, addr_add0]
      refine wp_region_held_drew (S := fun W => W.cell? ⟨bS, 0, none⟩ = some (.string (bs s)) ∧ W.cell? ⟨bA, 0, none⟩ = some (.int .i64 (a : Int)) ∧ True) (by kernel_rfl) ⟨hS2, hA2, trivial⟩ (fun hHeld => ?_)
      have HG3 : Hid (W2.drew.heap[w.heap.size]? = some (.cells (byteC (sizedD d K)).toArray 5 (0, 0))) := HG
      have HB3 : Hid (Below w.heap.size w W2.drew) := Lib.hid HB.out.drew
      generalize W2.drew = W3 at *
      clear HG HB hS2 hA2
      refine wpAnyH_take (i := 0) (v := ?v1) rfl (by kernel_rfl) (by kernel_rfl) (by kernel_rfl) (fun _ _ _ h => h) (Or.inl ⟨by rfl, ?hy1⟩) hHeld ?rest1
      case hy1 => (intro w hSw; (try dsimp only at hSw); (try go_split_ands); go_simp; first | done | with_reducible rfl)
      (try simp only [List.getElem_toArray]); (try simp only [List.getElem_cons_succ]); (try simp only [List.getElem_cons_zero]); (try simp only [Act.put]); (try simp only [List.setIfInBounds_toArray]); (try simp only [List.set_cons_succ]); (try simp only [List.set_cons_zero])
      refine wpAnyH_take (i := 1) (v := ?v2) rfl (by kernel_rfl) (by kernel_rfl) (by kernel_rfl) (fun _ _ _ h => h) (Or.inl ⟨by rfl, ?hy2⟩) hHeld ?rest2
      case hy2 => (intro w hSw; (try dsimp only at hSw); (try go_split_ands); go_simp; first | done | with_reducible rfl)
      (try simp only [List.getElem_toArray]); (try simp only [List.getElem_cons_succ]); (try simp only [List.getElem_cons_zero]); (try simp only [Act.put]); (try simp only [List.setIfInBounds_toArray]); (try simp only [List.set_cons_succ]); (try simp only [List.set_cons_zero])
      refine wpAnyH_take (i := 3) (v := ?v3) rfl (by kernel_rfl) (by kernel_rfl) (by kernel_rfl) (fun _ _ _ h => h) (Or.inl ⟨by rfl, ?hy3⟩) hHeld ?rest3
      case hy3 => (intro w hSw; (try dsimp only at hSw); (try go_split_ands); go_simp; first | done | with_reducible rfl)
      (try simp only [List.getElem_toArray]); (try simp only [List.getElem_cons_succ]); (try simp only [List.getElem_cons_zero]); (try simp only [Act.put]); (try simp only [List.setIfInBounds_toArray]); (try simp only [List.set_cons_succ]); (try simp only [List.set_cons_zero])
      refine wpAnyH_take (i := 2) (v := ?v4) rfl (by kernel_rfl) (by kernel_rfl) (by kernel_rfl) (fun _ _ _ h => h) (Or.inl ⟨by rfl, ?hy4⟩) hHeld ?rest4
      case hy4 => (intro w hSw; (try dsimp only at hSw); (try go_split_ands); go_simp; first | done | with_reducible rfl)
      (try simp only [List.getElem_toArray]); (try simp only [List.getElem_cons_succ]); (try simp only [List.getElem_cons_zero]); (try simp only [Act.put]); (try simp only [List.setIfInBounds_toArray]); (try simp only [List.set_cons_succ]); (try simp only [List.set_cons_zero])
      refine wpAnyH_ready (rs := [4]) (by kernel_rfl) (by simp) ?_
      refine AllReadyH.cons rfl (fun K' hK => ?_) AllReadyH.nil
      have hcp := run_copy_text (P := Try.prog) W3 66 9 3 5 w.heap.size a (K - a) (K - a) s.length s _ _ Try.underlying66 (by kernel_rfl) HG3.out (Nat.min_eq_left (by have := HKs.out; omega)) (by rw [List.size_toArray, byteC_len, sized_len]; exact HKs.out)
      have hrow : ((byteC (sizedD d K)).toArray.toList.take a ++ byteC (s.take s.length) ++ (byteC (sizedD d K)).toArray.toList.drop (a + s.length)) = byteC (putD d s a) := by
        rw [List.toList_toArray, List.take_length, ← byteC_take, ← byteC_drop, ← byteC_app, ← byteC_app, HKe.out, putD_sized]
      rw [hrow] at hcp
      obtain ⟨W4, hW⟩ : ∃ W4, W4 = W3.setRow w.heap.size (byteC (putD d s a)).toArray := ⟨_, rfl⟩
      have HG4 := Lib.hid ((show W4.heap[w.heap.size]? = some (.cells (byteC (putD d s a)).toArray 5 (0, 0)) by rw [hW]; exact setRow_heap W3 _ _ _ _ _ HG3.out))
      have hoth : ∀ b o, b < w.heap.size → W4.cell? ⟨b, o, none⟩ = W3.cell? ⟨b, o, none⟩ := fun b o hlt => by
        have : W4.heap[b]? = W3.heap[b]? := by rw [hW]; exact setRow_other W3 _ b _ (by omega)
        simp only [World.cell?, this]
      have HB4 := Lib.hid (HB3.out.trans (show Below w.heap.size W3 W4 by rw [hW]; exact ⟨rfl, rfl, rfl, by simp [World.setRow], fun j hj => setRow_other W3 _ j _ (by omega)⟩))
      rw [← hW] at hcp
      rw [if_pos (by rfl)]
      refine Lib.wp_copy_run _ _ _ 66 9 rfl _ _ rfl rfl hcp ?_
      refine hK.out _ _ ⟨(hoth _ _ HLS.out).trans hHeld.1, (hoth _ _ HLA.out).trans hHeld.2.1, trivial⟩ (fun hHeld => ?_)
      clear hK K' hcp hrow hW hoth
      (try simp only [List.getElem_toArray]); (try simp only [List.getElem_cons_succ]); (try simp only [List.getElem_cons_zero]); (try simp only [Act.put]); (try simp only [List.setIfInBounds_toArray]); (try simp only [List.set_cons_succ]); (try simp only [List.set_cons_zero])
      refine wpAnyH_done (by kernel_rfl) ?_ _
      go_wp2_with fail
      go_ret2
      rw [HR.out]
      exact made_row HG4.out (by rw [putD_len, ← HKe.out]) HK.out HB4.out
end Go.Proofs.Ythpcldmhamjnbaa
