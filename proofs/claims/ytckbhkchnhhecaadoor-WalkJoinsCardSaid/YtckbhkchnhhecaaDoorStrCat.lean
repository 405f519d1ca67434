/-
  slices.Grow and slices.Concat at slices of texts.
-/
import Derived.Test.YtckbhkchnhhecaaDoorLay1
import Derived.Lib.QuietBelow
import Derived.Deep.DrawnRows
import Derived.Laws.Cover1
import Derived.WalkMore
import Derived.Shelf.Spec.SlicesGrow
import Derived.StillTailTactics
namespace Go.Proofs.YtckbhkchnhhecaaDoor
open Go.RowKit Go.Shelf
open Go.WideShapes (add_plain)
attribute [local go_sem ↓] Go.wp_at_zero Go.wp_at_succ

def growRenS : Go.Shelf.Ren := ⟨fun | 4 => 58 | n => n, fun | 0 => 0 | 3 => 3 | 4 => 4 | 9 => 9 | 20 => 20 | 22 => 59 | 25 => 9 | n => n, fun | n => n⟩
theorem growLaidS : Lays8.n4 Tryd.prog growRenS := {
  mixed := by kernel_rfl
  f4 := ⟨ "slices.Grow[[]string,string]", by decide, Tryd.func58.trans (congrArg some (by kernel_rfl))⟩
  t0 := Tryd.underlying0
  a0 := Tryd.isAgg0
  z0 := Tryd.sizeOf0
  v0 := Tryd.zeroValue0
  t3 := Tryd.underlying3
  a3 := Tryd.isAgg3
  z3 := Tryd.sizeOf3
  v3 := Tryd.zeroValue3
  t4 := Tryd.underlying4
  a4 := Tryd.isAgg4
  z4 := Tryd.sizeOf4
  v4 := Tryd.zeroValue4
  t9 := Tryd.underlying9
  a9 := Tryd.isAgg9
  z9 := Tryd.sizeOf9
  v9 := Tryd.zeroValue9
  t20 := Tryd.underlying20
  a20 := Tryd.isAgg20
  z20 := Tryd.sizeOf20
  v20 := Tryd.zeroValue20
  t22 := Tryd.underlying59
  a22 := Tryd.isAgg59
  z22 := Tryd.sizeOf59
  v22 := Tryd.zeroValue59 }

def GrowIsS (e : Ending) (W W' : World) : Prop := ∃ v, e = .returned v ∧ W'.ownsRow W.heap.size 9 1 v 0 [] ∧ Below W.heap.size W W'
/-- A new row with room for n. -/
theorem grow_anyS (n : Nat) (hn : n ≤ 1000000) (w : World) : Calls Tryd.prog 58 #[.slice none 0 0, .int .i64 n] w fun e w' => GrowIsS e w w' := by
  obtain ⟨i0, hi0, hz0, hz1, hz2⟩ := info_parts infoStr
  rcases Nat.eq_zero_or_pos n with rfl | hp
  · refine (Any8.slices_Grow_room growLaidS none 0 0 0 w (Nat.le_refl _) (by decide) (by decide) (by decide)).mono ?_
    rintro e w' ⟨rfl, rfl⟩
    exact ⟨_, rfl, ⟨rfl, .inl ⟨rfl, rfl⟩⟩, Below.refl _ _⟩
  · refine (Any8.slices_Grow_grow growLaidS i0 _ hi0 hz0 (by omega) none 0 0 n [] w (Nat.le_refl _) (by omega) (by rw [hz2]; omega) (by omega) (by simp) (fun _ => rfl) (fun a h => by cases h)).mono ?_
    rintro e w' ⟨rfl, rfl⟩
    have h1 := grownCap_ge w (0 + n) 0 9
    have h2 := grownCap_le_maxLen w (0 + n) 0 9 (by unfold maxLen; omega)
    refine ⟨_, rfl, ⟨rfl, .inr ⟨w.heap.size, _, _, rfl, Nat.le_refl _, heap_alloc_new w.drew _, Nat.zero_le _, h2, ?_, by simp⟩⟩, ((Below.refl _ w).drew).alloc (Nat.le_refl _) _⟩
    show (#[] ++ _ ++ _ : Array Value).size = grownCap w (0 + n) 0 9 * 1
    rw [Array.size_append, Array.size_append, size_zeroCells, size_zeroCells]
    show 0 + (0 + n - 0) * 1 + (grownCap w (0 + n) 0 9 - (0 + n)) * 1 = _
    omega
/-- Slices that are to be joined: each value, and what it reads as. -/
abbrev SrcS := Value × List Str
def allLS (S : List SrcS) : List Str := (S.map (·.2)).flatten
theorem allL_succS (S : List SrcS) (k : Nat) (h : k < S.length) : allLS (S.take (k + 1)) = allLS (S.take k) ++ S[k].2 := by
  unfold allLS
  rw [List.take_succ_eq_append_getElem h, List.map_append, List.flatten_append]
  simp
theorem allL_lenS (S : List SrcS) (hs : ∀ x ∈ S, x.2.length ≤ 10001) (h3 : S.length ≤ 3) (k : Nat) : (allLS (S.take k)).length ≤ 30003 := by
  have main : ∀ S : List SrcS, (∀ x ∈ S, x.2.length ≤ 10001) → (allLS S).length ≤ S.length * 10001 := by
    intro S
    induction S with
    | nil => intro _; exact Nat.le_refl _
    | cons a S ih =>
      intro h
      have h1 := ih fun x hx => h x (by simp [hx])
      have h2 := h a (by simp)
      have : (allLS (a :: S)).length = a.2.length + (allLS S).length := by simp [allLS]
      rw [this, List.length_cons]
      omega
  have h1 := main (S.take k) fun x hx => hs x (List.mem_of_mem_take hx)
  have h2 : (S.take k).length ≤ 3 := by rw [List.length_take]; omega
  omega
/-- A row of the call's own, of these texts. -/
def CatIs (l : List Str) (e : Ending) (W W' : World) : Prop := ∃ v, e = .returned v ∧ W'.ownsRow W.heap.size 9 1 v l.length (strs l) ∧ Below W.heap.size W W'
/-- What the joining reads. -/
def SrcOkS (B b off : Nat) (S : List SrcS) (w : World) : Prop := ∀ k (h : k < S.length), w.cell? ⟨b, off + k, none⟩ = some S[k].1 ∧ Rd B 1 S[k].1 S[k].2.length (strs S[k].2) w
set_option maxRecDepth 100000 in
set_option maxHeartbeats 4000000 in
theorem sconcat_any (b off cap : Nat) (S : List SrcS) (w : World) (hb : b < w.heap.size) (hS : SrcOkS w.heap.size b off S w) (hs : ∀ x ∈ S, x.2.length ≤ 10001) (h3 : S.length ≤ 3) :
    Calls Tryd.prog 44 #[.slice (some ⟨b, off, none⟩) S.length cap] w fun e w' => CatIs (allLS S) e w w' := by
  obtain ⟨i0, hi0, hz0, hz1, hz2⟩ := info_parts infoStr
  have HS := Lib.hid hS
  have HL := Lib.hid (allL_lenS S hs h3)
  clear hS hs
  go_enter Tryd.func44, Tryd.ntmps44
  go_wp2_with fail
  go_loop [3, 11] (fun z i => ∃ k : Nat, i = .int .i64 k ∧ k ≤ S.length ∧ z = .int .i64 (allLS (S.take k)).length) (fun _ i => S.length - (intOf i).toNat)
  case atStart => exact ⟨0, rfl, Nat.zero_le _, rfl⟩
  case round =>
    obtain ⟨k, rfl, hk, rfl⟩ := hrel
    have hkl := HL.out k
    by_cases hlt : k < S.length
    · obtain ⟨hc0, hr⟩ := HS.out k hlt
      have hl1 : Hid ((allLS (S.take (k + 1))).length = (allLS (S.take k)).length + S[k].2.length) := Lib.hid (by rw [allL_succS S k hlt, List.length_append])
      have hkl1 := HL.out (k + 1)
      rw [hl1.out] at hkl1
      obtain ⟨ao, cap', e, _, _⟩ := hr.form
      rw [e] at hc0
      clear e hr
      generalize (allLS (S.take k)).length = z at *
      generalize S[k].2.length = y at *
      go_wp2_with fail
      go_round
      case rel => exact ⟨k + 1, by go_num, hlt, by rw [hl1.out]; go_num⟩
      case measure => simp [intOf]; omega
    · have hke : k = S.length := by omega
      have HT : Hid (S.take k = S) := Lib.hid (by rw [hke, List.take_length])
      have hI2 : decide (k < S.length) = false := by simp; omega
      rw [HT.out] at hkl ⊢
      clear hke hlt
      go_wp2_with fail
      refine (grow_anyS (allLS S).length (by omega) _).mono ?_
      rintro e w1 ⟨v, rfl, hown, hb1⟩
      have HO := Lib.hid hown
      have HB := Lib.hid hb1
      clear hown hb1
      go_wp2_with fail
      go_loopw [6, 27] (fun o i wr => ∃ k : Nat, i = .int .i64 k ∧ k ≤ S.length ∧ wr.ownsRow w.heap.size 9 1 o (allLS (S.take k)).length (strs (allLS (S.take k))) ∧ Below w.heap.size w wr) (fun _ i _ => S.length - (intOf i).toNat)
      case atStart => exact ⟨0, rfl, Nat.zero_le _, HO.out, HB.out⟩
      case round =>
        obtain ⟨k, rfl, hk, hown, hBr⟩ := hrel
        have sB := hBr.size
        by_cases hlt : k < S.length
        · obtain ⟨hc0, hr⟩ := HS.out k hlt
          have hc1 := (hBr.cell (p := ⟨b, off + k, none⟩) hb).trans hc0
          have hl1 : Hid ((allLS (S.take (k + 1))).length = (allLS (S.take k)).length + S[k].2.length) := Lib.hid (by rw [allL_succS S k hlt, List.length_append])
          have he1 : Hid (strs (allLS (S.take (k + 1))) = strs (allLS (S.take k)) ++ strs S[k].2) := Lib.hid (by rw [allL_succS S k hlt, strs_app])
          have hkl1 := HL.out (k + 1)
          rw [hl1.out] at hkl1
          have hr1 := Lib.hid (hr.below hBr)
          obtain ⟨ao, cap', e, _, _⟩ := hr.form
          rw [e] at hc1 hr1
          clear e hr hc0
          generalize (allLS (S.take k)).length = z at *
          generalize S[k].2.length = y at *
          go_wp2_with (at_builtin; go_loud (refine wpList_append_rd rfl (.tmp 31) (.tmp 32) 59 rfl w.heap.size 9 i0 _ 1 16 Tryd.underlying59 hi0 hz0 hz1 hz2 rfl (by decide) _ z _ rfl hown w.heap.size _ y (strs S[k].2) rfl hr1.out (strs_one _) (by unfold maxLen; omega) (by omega) sB ?_))
          intro v3 w3 ho3 hgr3
          have hB3 : Below w.heap.size w w3 := hBr.grown hgr3 sB (fun j ej => (hown.lt j ej).1)
          rw [← he1.out, ← hl1.out] at ho3
          go_wp2_with fail
          go_roundw
          case rel => exact ⟨k + 1, by go_num, hlt, ho3, hB3⟩
          case measure => simp [intOf]; omega
        · have hke : k = S.length := by omega
          have HT2 : Hid (S.take k = S) := Lib.hid (by rw [hke, List.take_length])
          have hI2 : decide (k < S.length) = false := by simp; omega
          rw [HT2.out] at hown
          clear hke hlt
          go_wp2_with fail
          go_ret
          exact ⟨_, rfl, hown, hBr⟩
end Go.Proofs.YtckbhkchnhhecaaDoor
