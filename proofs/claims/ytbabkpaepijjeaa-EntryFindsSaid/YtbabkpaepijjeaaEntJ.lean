/-
  slices.Concat; what stands between two places, replaced.
-/
import Derived.Test.YtbabkpaepijjeaaEntI
namespace Go.Proofs.Ytbabkpaepijjeaa
open Go.RowKit Go.Shelf
open Go.WideShapes (add_plain)
attribute [local go_sem ↓] Go.wp_at_zero Go.wp_at_succ

/-- Slices that are to be joined: each value, and what it reads as. -/
abbrev Src := Value × List EntL
def allL (S : List Src) : List EntL := (S.map (·.2)).flatten
theorem allL_succ (S : List Src) (k : Nat) (h : k < S.length) : allL (S.take (k + 1)) = allL (S.take k) ++ S[k].2 := by
  unfold allL
  rw [List.take_succ_eq_append_getElem h, List.map_append, List.flatten_append]
  simp
theorem allL_len (S : List Src) (hs : ∀ x ∈ S, x.2.length ≤ 10001) (h3 : S.length ≤ 3) (k : Nat) : (allL (S.take k)).length ≤ 30003 := by
  have main : ∀ S : List Src, (∀ x ∈ S, x.2.length ≤ 10001) → (allL S).length ≤ S.length * 10001 := by
    intro S
    induction S with
    | nil => intro _; exact Nat.le_refl _
    | cons a S ih =>
      intro h
      have h1 := ih fun x hx => h x (by simp [hx])
      have h2 := h a (by simp)
      have : (allL (a :: S)).length = a.2.length + (allL S).length := by simp [allL]
      rw [this, List.length_cons]
      omega
  have h1 := main (S.take k) fun x hx => hs x (List.mem_of_mem_take hx)
  have h2 : (S.take k).length ≤ 3 := by rw [List.length_take]; omega
  omega
/-- What the joining reads. -/
def SrcOk (B b off : Nat) (S : List Src) (w : World) : Prop := ∀ k (h : k < S.length), w.cell? ⟨b, off + k, none⟩ = some S[k].1 ∧ Rd B 2 S[k].1 S[k].2.length (ents S[k].2) w
set_option maxRecDepth 100000 in
set_option maxHeartbeats 4000000 in
theorem concat_any (b off cap : Nat) (S : List Src) (w : World) (hb : b < w.heap.size) (hS : SrcOk w.heap.size b off S w) (hs : ∀ x ∈ S, x.2.length ≤ 10001) (h3 : S.length ≤ 3) :
    Calls Try.prog 32 #[.slice (some ⟨b, off, none⟩) S.length cap] w fun e w' => GivesE (allL S) e w w' := by
  obtain ⟨i0, hi0, hz0, hz1, hz2⟩ := info_parts infoEnt
  have HS := Lib.hid hS
  have HL := Lib.hid (allL_len S hs h3)
  clear hS hs
  go_enter Try.func32, Try.ntmps32
  go_wp2_with fail
  go_loop [3, 11] (fun z i => ∃ k : Nat, i = .int .i64 k ∧ k ≤ S.length ∧ z = .int .i64 (allL (S.take k)).length) (fun _ i => S.length - (intOf i).toNat)
  case atStart => exact ⟨0, rfl, Nat.zero_le _, rfl⟩
  case round =>
    obtain ⟨k, rfl, hk, rfl⟩ := hrel
    have hkl := HL.out k
    by_cases hlt : k < S.length
    · obtain ⟨hc0, hr⟩ := HS.out k hlt
      have hl1 : Hid ((allL (S.take (k + 1))).length = (allL (S.take k)).length + S[k].2.length) := Lib.hid (by rw [allL_succ S k hlt, List.length_append])
      have hkl1 := HL.out (k + 1)
      rw [hl1.out] at hkl1
      obtain ⟨ao, cap', e, _, _⟩ := hr.form
      rw [e] at hc0
      clear e hr
      generalize (allL (S.take k)).length = z at *
      generalize S[k].2.length = y at *
      go_wp2_with fail
      go_round
      case rel => exact ⟨k + 1, by go_num, hlt, by rw [hl1.out]; go_num⟩
      case measure => simp [intOf]; omega
    · have hke : k = S.length := by omega
      have HT : Hid (S.take k = S) := Lib.hid (by rw [hke, List.take_length])
      have hI2 : decide (k < S.length) = false := by simp; omega
      rw [HT.out] at hkl ⊢
      clear hke hlt
      go_wp2_with fail
      refine (grow_any (allL S).length (by omega) _).mono ?_
      rintro e w1 ⟨v, rfl, hown, hb1⟩
      have HO := Lib.hid hown
      have HB := Lib.hid hb1
      clear hown hb1
      go_wp2_with fail
      go_loopw [6, 27] (fun o i wr => ∃ k : Nat, i = .int .i64 k ∧ k ≤ S.length ∧ wr.ownsRow w.heap.size 43 2 o (allL (S.take k)).length (ents (allL (S.take k))) ∧ Below w.heap.size w wr) (fun _ i _ => S.length - (intOf i).toNat)
      case atStart => exact ⟨0, rfl, Nat.zero_le _, HO.out, HB.out⟩
      case round =>
        obtain ⟨k, rfl, hk, hown, hBr⟩ := hrel
        have sB := hBr.size
        by_cases hlt : k < S.length
        · obtain ⟨hc0, hr⟩ := HS.out k hlt
          have hc1 := (hBr.cell (p := ⟨b, off + k, none⟩) hb).trans hc0
          have hl1 : Hid ((allL (S.take (k + 1))).length = (allL (S.take k)).length + S[k].2.length) := Lib.hid (by rw [allL_succ S k hlt, List.length_append])
          have he1 : Hid (ents (allL (S.take (k + 1))) = ents (allL (S.take k)) ++ ents S[k].2) := Lib.hid (by rw [allL_succ S k hlt, ents_app])
          have hkl1 := HL.out (k + 1)
          rw [hl1.out] at hkl1
          have hr1 := Lib.hid (hr.below hBr)
          obtain ⟨ao, cap', e, _, _⟩ := hr.form
          rw [e] at hc1 hr1
          clear e hr hc0
          generalize (allL (S.take k)).length = z at *
          generalize S[k].2.length = y at *
          go_wp2_with (at_builtin; go_loud (refine wpList_append_rd rfl (.tmp 31) (.tmp 32) 22 rfl w.heap.size 43 i0 _ 2 24 Try.underlying22 hi0 hz0 hz1 hz2 rfl (by decide) _ z _ rfl hown w.heap.size _ y (ents S[k].2) rfl hr1.out (ents_one _) (by unfold maxLen; omega) (by omega) sB ?_))
          intro v3 w3 ho3 hgr3
          have hB3 : Below w.heap.size w w3 := hBr.grown hgr3 sB (fun j ej => (hown.lt j ej).1)
          rw [← he1.out, ← hl1.out] at ho3
          go_wp2_with fail
          go_roundw
          case rel => exact ⟨k + 1, by go_num, hlt, ho3, hB3⟩
          case measure => simp [intOf]; omega
        · have hke : k = S.length := by omega
          have HT2 : Hid (S.take k = S) := Lib.hid (by rw [hke, List.take_length])
          have hI2 : decide (k < S.length) = false := by simp; omega
          rw [HT2.out] at hown
          clear hke hlt
          go_wp2_with fail
          go_ret
          exact ⟨_, rfl, Rd.own hown (Nat.le_refl _), hBr⟩
end Go.Proofs.Ytbabkpaepijjeaa
