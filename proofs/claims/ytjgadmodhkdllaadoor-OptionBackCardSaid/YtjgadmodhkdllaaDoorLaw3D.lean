/-
  The walk of OptionLast.
-/
import Derived.Test.YtjgadmodhkdllaaDoorLaw3C
namespace Go.Proofs.YtjgadmodhkdllaaDoor
open Go.RowKit Go.Shelf

def lastHead (a : Str) (k : Nat) : List Str := [45, 109] :: a :: List.replicate k [45, 112]
theorem lastHead_succ (a : Str) (k : Nat) : lastHead a (k + 1) = lastHead a k ++ [[45, 112]] := by simp [lastHead, List.replicate_succ']
theorem lastHead_len (a : Str) (k : Nat) : (lastHead a k).length = k + 2 := by simp [lastHead]
theorem lastHead_end (a b : Str) (k : Nat) : lastHead a k ++ [[45, 109], b] = lastA a b k := by simp [lastHead, lastA]
theorem lastF_len (a b : Str) (k : Nat) : (lastF a b k).length = k + 2 := by simp [lastF]
theorem lastF_m (a b : Str) (k : Nat) : valueL (lastF a b k) 109 = some b := by
  have : lastF a b k = ((109, a) :: List.replicate k (112, [])) ++ [(109, b)] := rfl
  rw [this]
  exact valueL_yes _ _ _ rfl
theorem lastF_p (a b : Str) (k : Nat) : (valueL (lastF a b k) 112).isSome = decide (0 < k) := by
  have : lastF a b k = ((109, a) :: List.replicate k (112, [])) ++ [(109, b)] := rfl
  rw [this, valueL_no _ _ _ (by show (109 : UInt8) ≠ 112; decide)]
  cases k with
  | zero => rfl
  | succ k =>
    have e : (((109 : UInt8), a) :: List.replicate (k + 1) ((112, []) : FlagL)) = ((109, a) :: List.replicate k (112, [])) ++ [(112, [])] := by simp [List.replicate_succ']
    show (valueL (((109 : UInt8), a) :: List.replicate (k + 1) ((112, []) : FlagL)) 112).isSome = _
    rw [e, valueL_yes _ _ _ rfl]
    simp

set_option maxRecDepth 100000 in
set_option maxHeartbeats 2000000 in
theorem last_small (a b : Str) (d : Nat) (hd : d ≤ 255) (w : World) (a0 a1 : Addr) (m : Int) (hg : Gl w.heap.size a0 a1 m w) (hp : a.length ≤ 50) (hq : b.length ≤ 50) :
    Calls Tryd.prog 8 #[.string (bs a), .string (bs b), .int .u8 d] w fun e W' => e = .returned (.bool true) ∧ Below w.heap.size w W' := by
  have h1 := small50 (n := a.length) (by omega)
  have h2 := small50 (n := b.length) (by omega)
  obtain ⟨j0, hj, hy0, hy1, hy2⟩ := info_parts infoStr
  have HG := Lib.hid hg
  have hd0 : (0 : Int) ≤ (d : Int) := by omega
  have hd1 : (d : Int) ≤ 255 := by omega
  clear hg
  go_enter Tryd.func8, Tryd.ntmps8
  go_wp2_with fail
  refine (shown_any _ a0 a1 m _ HG.out (Nat.le_refl _)).mono ?_
  rintro e w1 ⟨rfl, hb1⟩
  have s1 := hb1.size
  go_wp2_with fail
  go_loopw [7, 8] (fun o i wr => ∃ k : Nat, i = .int .i64 k ∧ k ≤ d % 4 ∧ wr.ownsRow w1.heap.size 9 1 o (k + 2) (strs (lastHead a k)) ∧ Below w1.heap.size w1 wr) (fun _ i _ => d % 4 - (intOf i).toNat)
  case atStart => exact ⟨0, rfl, Nat.zero_le _, World.ownsRow_lit (size := 1) w1 #[.string ⟨#[45, 109]⟩, .string (bs a)] 2 (Nat.le_refl _) (by decide) rfl, (Below.refl _ _).alloc (Nat.le_refl _) _⟩
  case round =>
    obtain ⟨k, rfl, hk, hown, hB⟩ := hrel
    have sB := hB.size
    have hc4 : d % 4 < 4 := Nat.mod_lt _ (by decide)
    by_cases hlt : k < d % 4
    · have hI : decide ((k : Int) < (d : Int) % 4) = true := by simp; omega
      have ht : Hid (strs (lastHead a (k + 1)) = strs (lastHead a k) ++ [.string ⟨#[45, 112]⟩]) := Lib.hid (by rw [lastHead_succ, strs_app]; rfl)
      go_wp2_with (at_builtin; refine wpList_append_own _ rfl (.tmp 36) (.tmp 37) 22 rfl w1.heap.size 9 j0 _ 1 16 Tryd.underlying22 hj hy0 hy1 hy2 rfl (by decide) _ (k + 2) _ rfl (hown.alloc _) ⟨wr.heap.size, 0, none⟩ 1 1 [.string ⟨#[45, 112]⟩] rfl rfl (one_new _ _ _) (one_str _) (by unfold maxLen; omega) (by omega) (by simp; omega) ?_)
      intro v3 w3 ho3 hgr3 _
      have hB3 := below_appended (Nat.le_refl _) hB hown hgr3
      rw [← ht.out] at ho3
      go_wp2_with fail
      go_roundw
      case rel => exact ⟨k + 1, by go_num, hlt, by rw [show k + 1 + 2 = k + 2 + 1 by omega]; exact ho3, hB3⟩
      case measure => simp [intOf]; omega
    · have hI : decide ((k : Int) < (d : Int) % 4) = false := by simp; omega
      have HKE : Hid (k = d % 4) := Lib.hid (by omega)
      have hB0 := ret_tr hb1 hB
      have ht : Hid (strs (lastHead a k) ++ [.string ⟨#[45, 109]⟩, .string (bs b)] = strs (lastA a b k)) := Lib.hid (by rw [← lastHead_end, strs_app]; rfl)
      go_wp2_with (at_builtin; refine wpList_append_own _ rfl (.tmp 40) (.tmp 42) 22 rfl w1.heap.size 9 j0 _ 1 16 Tryd.underlying22 hj hy0 hy1 hy2 rfl (by decide) _ (k + 2) _ rfl (hown.alloc _) ⟨wr.heap.size, 0, none⟩ 2 2 [.string ⟨#[45, 109]⟩, .string (bs b)] rfl rfl (World.news_of_block (cs := #[.string ⟨#[45, 109]⟩, .string (bs b)]) (t := 9) (fr := (0, 0)) (heap_alloc_new wr _)) (by simp [Value.oneCell']) (by unfold maxLen; omega) (by omega) (by simp; omega) ?_)
      intro v3 w3 ho3 hgr3 _
      have hB3 := ret_tr hb1 (below_appended (Nat.le_refl _) hB hown hgr3)
      rw [ht.out] at ho3
      obtain ⟨M, hM⟩ : ∃ M, M = lastA a b k := ⟨_, rfl⟩
      have hMl : M.length = k + 2 + 2 := by rw [hM]; simp [lastA]
      rw [← hM, ← hMl] at ho3
      have hR := Rd.own (B := w3.heap.size) ho3 (Nat.le_refl _)
      have HP : Hid (parseL pmSpec M = .ok (lastF a b k, [])) := Lib.hid (by rw [hM]; exact parse_last a b k)
      have HMA : Hid (∀ x ∈ M, x.length ≤ 65000) := Lib.hid (by
        rw [hM]
        intro x hx
        rw [← lastHead_end] at hx
        rcases List.mem_append.1 hx with h | h
        · unfold lastHead at h
          rcases List.mem_cons.1 h with rfl | h
          · decide
          · rcases List.mem_cons.1 h with rfl | h
            · omega
            · rw [List.eq_of_mem_replicate h]; decide
        · rcases List.mem_cons.1 h with rfl | h
          · decide
          · rw [List.mem_singleton] at h; subst h; omega)
      have hMb : M.length ≤ 100 := by omega
      clear hM hMl ho3 hgr3
      have HG3 := Lib.hid (HG.out.below hB3 (Nat.le_refl _))
      go_wp2_with fail
      refine (parse_ok _ a0 a1 m pmSpec _ M _ HG3.out hB3.size hR hMb (by decide) HMA.out _ _ HP.out).mono ?_
      rintro e w4 ⟨vf, vo, rfl, hf4, ho4, hb4⟩
      have b4 := ret_tr hB3 hb4
      have hfl := lastF_len a b k
      have hVm := Lib.hid (lastF_m a b k)
      have hVp := Lib.hid (lastF_p a b k)
      generalize lastF a b k = F at *
      have hFb : F.length ≤ 10000000 := by omega
      have HF4 := Lib.hid hf4
      obtain ⟨aof, capf, rfl, _, _⟩ := hf4.form
      obtain ⟨aoo, capo, rfl, _, _⟩ := ho4.form
      have HFL := Lib.hid hfl
      have hfi : ((F.length : Int) == 2 + (d : Int) % 4) = true := by rw [beq_iff_eq]; have := HKE.out; omega
      clear hf4 ho4 hb4 hfl hR
      go_wp2_with fail
      refine (valueF_any _ _ F 109 _ HF4.out (Nat.le_refl _) hFb).mono ?_
      rintro e w5 ⟨rfl, hb5⟩
      rw [hVm.out]
      have b5 := ret_tr b4 hb5
      have HF5 := Lib.hid (HF4.out.below hb5)
      have s5 := hb5.size
      clear hb5
      go_wp2_with fail
      refine (hasF_any _ _ F 112 _ HF5.out s5 hFb).mono ?_
      rintro e w6 ⟨rfl, hb6⟩
      rw [hVp.out]
      have b6 := ret_tr b5 hb6
      go_wp2_with fail
      go_ret
      refine ⟨ret_bool ?_, b6⟩
      have hke := HKE.out
      have hdm : (d : Int) % 4 = ((d % 4 : Nat) : Int) := by omega
      rw [hdm, ← hke]
      by_cases h0 : 0 < k
      · simp [h0]
      · simp [h0]

set_option maxRecDepth 100000 in
set_option maxHeartbeats 2000000 in
theorem last_walk (t1 t2 : ByteArray) (c : UInt8) (_ : t1.size ≤ 9223372036854775807) (_ : t2.size ≤ 9223372036854775807) (w : World) (a0 a1 : Addr) (m : Int) (hg : Gl w.heap.size a0 a1 m w) :
    Calls Tryd.prog 8 #[.string t1, .string t2, .int .u8 c.toNat] w fun e W' => e = .returned (.bool true) ∧ Below w.heap.size w W' := by
  obtain ⟨s, rfl⟩ : ∃ s, t1 = bs s := ⟨_, bs_of t1⟩
  obtain ⟨f, rfl⟩ : ∃ s, t2 = bs s := ⟨_, bs_of t2⟩
  rename_i hsz hsf
  rw [bs_size] at hsz hsf
  have HG := Lib.hid hg
  by_cases hp : 50 < s.length
  · have h1 := big50 hp
    clear hg
    go_enter Tryd.func8, Tryd.ntmps8
    go_wp2_with fail
    refine (shown_any _ a0 a1 m _ HG.out (Nat.le_refl _)).mono ?_
    rintro e w1 ⟨rfl, hb1⟩
    go_wp2_with fail
    go_ret
    exact ⟨rfl, hb1⟩
  have h1 := small50 hp
  by_cases hq : 50 < f.length
  · have h2 := big50 hq
    clear hg
    go_enter Tryd.func8, Tryd.ntmps8
    go_wp2_with fail
    refine (shown_any _ a0 a1 m _ HG.out (Nat.le_refl _)).mono ?_
    rintro e w1 ⟨rfl, hb1⟩
    go_wp2_with fail
    go_ret
    exact ⟨rfl, hb1⟩
  exact last_small s f c.toNat (by have := c.toNat_lt; omega) w a0 a1 m hg (by omega) (by omega)
end Go.Proofs.YtjgadmodhkdllaaDoor
