import Derived.Test.YtilhiafmljmljaaDoorR12
import Derived.Lib.QuietBelow
import Derived.Deep.DrawnRows
import Derived.Laws.Cover1
import Derived.WalkMore
import Derived.Shelf.Spec.SlicesGrow
import Derived.StillTailTactics
import Derived.Laws.BitsLemmas
import Derived.Test.YtilhiafmljmljaaDoorR11
import Derived.Test.YtilhiafmljmljaaDoorProg
namespace Go.Proofs.YtilhiafmljmljaaDoor
open Go.RowKit Go.Shelf
open Go.WideShapes (add_plain)
attribute [local go_sem ↓] Go.wp_at_zero Go.wp_at_succ
def growRenS : Go.Shelf.Ren := ⟨fun | 4 => 67 | n => n, fun | 0 => 0 | 3 => 3 | 4 => 4 | 9 => 9 | 20 => 20 | 22 => 71 | 25 => 9 | n => n, fun | n => n⟩
theorem growLaidS : Lays8.n4 Tryd.prog growRenS := {
  mixed := by kernel_rfl
  f4 := ⟨ "slices.Grow[[]string,string]", by decide, Tryd.func67.trans (congrArg some (by kernel_rfl))⟩
  t0 := Tryd.underlying0
  a0 := Tryd.isAgg0
  z0 := Tryd.sizeOf0
  v0 := Tryd.zeroValue0
  t3 := Tryd.underlying3
  a3 := Tryd.isAgg3
  z3 := Tryd.sizeOf3
  v3 := Tryd.zeroValue3
  t4 := Tryd.underlying4
  a4 := Tryd.isAgg4
  z4 := Tryd.sizeOf4
  v4 := Tryd.zeroValue4
  t9 := Tryd.underlying9
  a9 := Tryd.isAgg9
  z9 := Tryd.sizeOf9
  v9 := Tryd.zeroValue9
  t20 := Tryd.underlying20
  a20 := Tryd.isAgg20
  z20 := Tryd.sizeOf20
  v20 := Tryd.zeroValue20
  t22 := Tryd.underlying71
  a22 := Tryd.isAgg71
  z22 := Tryd.sizeOf71
  v22 := Tryd.zeroValue71 }
def GrowIsS (e : Ending) (W W' : World) : Prop := ∃ v, e = .returned v ∧ W'.ownsRow W.heap.size 9 1 v 0 [] ∧ Below W.heap.size W W'
theorem grow_anyS (n : Nat) (hn : n ≤ 1000000) (w : World) : Calls Tryd.prog 67 #[.slice none 0 0, .int .i64 n] w fun e w' => GrowIsS e w w' := by
  obtain ⟨i0, hi0, hz0, hz1, hz2⟩ := info_parts infoStr
  rcases Nat.eq_zero_or_pos n with rfl | hp
  · refine (Any8.slices_Grow_room growLaidS none 0 0 0 w (Nat.le_refl _) (by decide) (by decide) (by decide)).mono ?_
    rintro e w' ⟨rfl, rfl⟩
    exact ⟨_, rfl, ⟨rfl, .inl ⟨rfl, rfl⟩⟩, Below.refl _ _⟩
  · refine (Any8.slices_Grow_grow growLaidS i0 _ hi0 hz0 (by omega) none 0 0 n [] w (Nat.le_refl _) (by omega) (by rw [hz2]; omega) (by omega) (by simp) (fun _ => rfl) (fun a h => by cases h)).mono ?_
    rintro e w' ⟨rfl, rfl⟩
    have h1 := grownCap_ge w (0 + n) 0 9
    have h2 := grownCap_le_maxLen w (0 + n) 0 9 (by unfold maxLen; omega)
    refine ⟨_, rfl, ⟨rfl, .inr ⟨w.heap.size, _, _, rfl, Nat.le_refl _, heap_alloc_new w.drew _, Nat.zero_le _, h2, ?_, by simp⟩⟩, ((Below.refl _ w).drew).alloc (Nat.le_refl _) _⟩
    show (#[] ++ _ ++ _ : Array Value).size = grownCap w (0 + n) 0 9 * 1
    rw [Array.size_append, Array.size_append, size_zeroCells, size_zeroCells]
    show 0 + (0 + n - 0) * 1 + (grownCap w (0 + n) 0 9 - (0 + n)) * 1 = _
    omega
abbrev SrcS := Value × List Str
def allLS (S : List SrcS) : List Str := (S.map (·.2)).flatten
theorem allL_succS (S : List SrcS) (k : Nat) (h : k < S.length) : allLS (S.take (k + 1)) = allLS (S.take k) ++ S[k].2 := by
  unfold allLS
  rw [List.take_succ_eq_append_getElem h, List.map_append, List.flatten_append]
  simp
theorem allL_lenS (S : List SrcS) (hs : ∀ x ∈ S, x.2.length ≤ 10001) (h3 : S.length ≤ 3) (k : Nat) : (allLS (S.take k)).length ≤ 30003 := by
  have main : ∀ S : List SrcS, (∀ x ∈ S, x.2.length ≤ 10001) → (allLS S).length ≤ S.length * 10001 := by
    intro S
    induction S with
    | nil => intro _; exact Nat.le_refl _
    | cons a S ih =>
      intro h
      have h1 := ih fun x hx => h x (by simp [hx])
      have h2 := h a (by simp)
      have : (allLS (a :: S)).length = a.2.length + (allLS S).length := by simp [allLS]
      rw [this, List.length_cons]
      omega
  have h1 := main (S.take k) fun x hx => hs x (List.mem_of_mem_take hx)
  have h2 : (S.take k).length ≤ 3 := by rw [List.length_take]; omega
  omega
def CatIs (l : List Str) (e : Ending) (W W' : World) : Prop := ∃ v, e = .returned v ∧ W'.ownsRow W.heap.size 9 1 v l.length (strs l) ∧ Below W.heap.size W W'
def SrcOkS (B b off : Nat) (S : List SrcS) (w : World) : Prop := ∀ k (h : k < S.length), w.cell? ⟨b, off + k, none⟩ = some S[k].1 ∧ Rd B 1 S[k].1 S[k].2.length (strs S[k].2) w
set_option maxRecDepth 100000 in
set_option maxHeartbeats 4000000 in
theorem sconcat_any (b off cap : Nat) (S : List SrcS) (w : World) (hb : b < w.heap.size) (hS : SrcOkS w.heap.size b off S w) (hs : ∀ x ∈ S, x.2.length ≤ 10001) (h3 : S.length ≤ 3) :
    Calls Tryd.prog 54 #[.slice (some ⟨b, off, none⟩) S.length cap] w fun e w' => CatIs (allLS S) e w w' := by
  obtain ⟨i0, hi0, hz0, hz1, hz2⟩ := info_parts infoStr
  have HS := Lib.hid hS
  have HL := Lib.hid (allL_lenS S hs h3)
  clear hS hs
  go_enter Tryd.func54, Tryd.ntmps54
  go_wp2_with fail
  go_loop [3, 11] (fun z i => ∃ k : Nat, i = .int .i64 k ∧ k ≤ S.length ∧ z = .int .i64 (allLS (S.take k)).length) (fun _ i => S.length - (intOf i).toNat)
  case atStart => exact ⟨0, rfl, Nat.zero_le _, rfl⟩
  case round =>
    obtain ⟨k, rfl, hk, rfl⟩ := hrel
    have hkl := HL.out k
    by_cases hlt : k < S.length
    · obtain ⟨hc0, hr⟩ := HS.out k hlt
      have hl1 : Hid ((allLS (S.take (k + 1))).length = (allLS (S.take k)).length + S[k].2.length) := Lib.hid (by rw [allL_succS S k hlt, List.length_append])
      have hkl1 := HL.out (k + 1)
      rw [hl1.out] at hkl1
      obtain ⟨ao, cap', e, _, _⟩ := hr.form
      rw [e] at hc0
      clear e hr
      generalize (allLS (S.take k)).length = z at *
      generalize S[k].2.length = y at *
      go_wp2_with fail
      go_round
      case rel => exact ⟨k + 1, by go_num, hlt, by rw [hl1.out]; go_num⟩
      case measure => simp [intOf]; omega
    · have hke : k = S.length := by omega
      have HT : Hid (S.take k = S) := Lib.hid (by rw [hke, List.take_length])
      have hI2 : decide (k < S.length) = false := by simp; omega
      rw [HT.out] at hkl ⊢
      clear hke hlt
      go_wp2_with fail
      refine (grow_anyS (allLS S).length (by omega) _).mono ?_
      rintro e w1 ⟨v, rfl, hown, hb1⟩
      have HO := Lib.hid hown
      have HB := Lib.hid hb1
      clear hown hb1
      go_wp2_with fail
      go_loopw [6, 27] (fun o i wr => ∃ k : Nat, i = .int .i64 k ∧ k ≤ S.length ∧ wr.ownsRow w.heap.size 9 1 o (allLS (S.take k)).length (strs (allLS (S.take k))) ∧ Below w.heap.size w wr) (fun _ i _ => S.length - (intOf i).toNat)
      case atStart => exact ⟨0, rfl, Nat.zero_le _, HO.out, HB.out⟩
      case round =>
        obtain ⟨k, rfl, hk, hown, hBr⟩ := hrel
        have sB := hBr.size
        by_cases hlt : k < S.length
        · obtain ⟨hc0, hr⟩ := HS.out k hlt
          have hc1 := (hBr.cell (p := ⟨b, off + k, none⟩) hb).trans hc0
          have hl1 : Hid ((allLS (S.take (k + 1))).length = (allLS (S.take k)).length + S[k].2.length) := Lib.hid (by rw [allL_succS S k hlt, List.length_append])
          have he1 : Hid (strs (allLS (S.take (k + 1))) = strs (allLS (S.take k)) ++ strs S[k].2) := Lib.hid (by rw [allL_succS S k hlt, strs_app])
          have hkl1 := HL.out (k + 1)
          rw [hl1.out] at hkl1
          have hr1 := Lib.hid (hr.below hBr)
          obtain ⟨ao, cap', e, _, _⟩ := hr.form
          rw [e] at hc1 hr1
          clear e hr hc0
          generalize (allLS (S.take k)).length = z at *
          generalize S[k].2.length = y at *
          go_wp2_with (at_builtin; go_loud (refine wpList_append_rd rfl (.tmp 31) (.tmp 32) 71 rfl w.heap.size 9 i0 _ 1 16 Tryd.underlying71 hi0 hz0 hz1 hz2 rfl (by decide) _ z _ rfl hown w.heap.size _ y (strs S[k].2) rfl hr1.out (strs_one _) (by unfold maxLen; omega) (by omega) sB ?_))
          intro v3 w3 ho3 hgr3
          have hB3 : Below w.heap.size w w3 := hBr.grown hgr3 sB (fun j ej => (hown.lt j ej).1)
          rw [← he1.out, ← hl1.out] at ho3
          go_wp2_with fail
          go_roundw
          case rel => exact ⟨k + 1, by go_num, hlt, ho3, hB3⟩
          case measure => simp [intOf]; omega
        · have hke : k = S.length := by omega
          have HT2 : Hid (S.take k = S) := Lib.hid (by rw [hke, List.take_length])
          have hI2 : decide (k < S.length) = false := by simp; omega
          rw [HT2.out] at hown
          clear hke hlt
          go_wp2_with fail
          go_ret
          exact ⟨_, rfl, hown, hBr⟩
end Go.Proofs.YtilhiafmljmljaaDoor
namespace Go.Proofs.YtilhiafmljmljaaDoor
open Go
theorem i64_mask (n : Int) (k : Nat) (hk : k ≤ 6) : bits .and .i64 n (((2 ^ k - 1 : Nat) : Int)) = n % ((2 ^ k : Nat) : Int) := by
  have hk2 : 2 ^ k ≤ 2 ^ 6 := Nat.pow_le_pow_right (by decide) hk
  have hpos : 0 < 2 ^ k := Nat.two_pow_pos k
  have hm : (BitVec.ofInt 64 (((2 ^ k - 1 : Nat) : Int))).toNat = 2 ^ k - 1 := by
    rw [BitVec.ofInt_natCast, BitVec.toNat_ofNat]
    exact Nat.mod_eq_of_lt (by omega)
  have hd : (2 : Nat) ^ 64 = 2 ^ k * 2 ^ (64 - k) := by rw [← Nat.pow_add]; congr 1; omega
  have key : (BitVec.ofInt 64 n &&& BitVec.ofInt 64 (((2 ^ k - 1 : Nat) : Int))).toNat = (n % ((2 ^ 64 : Nat) : Int)).toNat % 2 ^ k := by
    rw [BitVec.toNat_and, BitVec.toNat_ofInt, hm, Nat.and_two_pow_sub_one_eq_mod]
  show IntKind.i64.wrap ((BitVec.ofInt 64 n &&& BitVec.ofInt 64 (((2 ^ k - 1 : Nat) : Int))).toNat : Nat) = _
  rw [key, IntKind.wrap_i64]
  have h1 : (((n % ((2 ^ 64 : Nat) : Int)).toNat % 2 ^ k : Nat) : Int) = n % ((2 ^ k : Nat) : Int) := by
    rw [Int.natCast_emod, Int.toNat_of_nonneg (Int.emod_nonneg _ (by decide))]
    rw [hd, Int.natCast_mul]
    exact Int.emod_emod_of_dvd _ (Int.dvd_mul_right _ _)
  rw [h1]
  have h2 := Int.emod_nonneg n (b := ((2 ^ k : Nat) : Int)) (by omega)
  have h3 := Int.emod_lt_of_pos n (b := ((2 ^ k : Nat) : Int)) (by omega)
  have h4 : ((2 ^ k : Nat) : Int) ≤ 64 := by exact_mod_cast hk2
  omega
theorem i64_and7 (n : Int) : bits .and .i64 n 7 = n % 8 := i64_mask n 3 (by decide)
abbrev V (n : Int) : BitVec 64 := BitVec.ofInt 64 n
theorem wrap_back (x : BitVec 64) : IntKind.i64.wrap (x.toNat : Int) = x.toInt := by
  have h := x.isLt
  rw [IntKind.wrap_i64, BitVec.toInt_eq_toNat_cond]
  split <;> omega
theorem and_V (a b : Int) : bits .and .i64 a b = (V a &&& V b).toInt := wrap_back _
theorem andNot_V (a b : Int) : bits .andNot .i64 a b = (V a &&& ~~~ V b).toInt := wrap_back _
theorem V_toInt (x : BitVec 64) : V x.toInt = x := BitVec.ofInt_toInt
theorem toInt_zero_iff (x : BitVec 64) : x.toInt = 0 ↔ x = 0#64 := by
  constructor
  · intro h
    have := V_toInt x
    rw [h] at this
    rw [← this]
    rfl
  · rintro rfl
    rfl
theorem toInt_inj_iff (x y : BitVec 64) : x.toInt = y.toInt ↔ x = y :=
  ⟨fun h => by rw [← V_toInt x, h, V_toInt], fun h => by rw [h]⟩
def subB (want rights : Int) : Bool := (V want &&& 7#64 &&& ~~~ (V rights &&& 7#64)) == 0#64
def mayB (m owner who want : Int) : Bool := if who = 0 then true else subB want (if owner = who then m / 8 else m)
theorem sub_andNot (want rights : Int) : (bits .andNot .i64 (want % 8) (rights % 8) = 0) ↔ subB want rights = true := by
  rw [← i64_and7, ← i64_and7, andNot_V, and_V, and_V, V_toInt, V_toInt, toInt_zero_iff]
  unfold subB
  rw [beq_iff_eq]
  rfl
theorem bv_sub (A R : BitVec 64) : (A &&& 7#64 &&& ~~~ (R &&& 7#64)) = 0#64 ↔ A &&& 7#64 &&& R = A &&& 7#64 := by
  constructor
  · intro h
    apply BitVec.eq_of_getLsbD_eq
    intro i hi
    have := congrArg (fun x : BitVec 64 => x.getLsbD i) h
    simp only [BitVec.getLsbD_and, BitVec.getLsbD_not, BitVec.getLsbD_zero, hi, decide_true, Bool.true_and] at this ⊢
    revert this
    cases A.getLsbD i <;> cases R.getLsbD i <;> cases (7#64).getLsbD i <;> simp
  · intro h
    apply BitVec.eq_of_getLsbD_eq
    intro i hi
    have := congrArg (fun x : BitVec 64 => x.getLsbD i) h
    simp only [BitVec.getLsbD_and, BitVec.getLsbD_not, BitVec.getLsbD_zero, hi, decide_true, Bool.true_and] at this ⊢
    revert this
    cases A.getLsbD i <;> cases R.getLsbD i <;> cases (7#64).getLsbD i <;> simp
theorem sub_and (want rights : Int) : (bits .and .i64 (want % 8) rights = want % 8) ↔ subB want rights = true := by
  have h : want % 8 = (V want &&& V 7).toInt := by rw [← i64_and7, and_V]
  rw [h, and_V, V_toInt, toInt_inj_iff]
  unfold subB
  rw [beq_iff_eq, bv_sub]
  rfl
theorem sub_and8 (want rights : Int) : (bits .and .i64 (want % 8) (rights % 8) = want % 8) ↔ subB want rights = true := by
  rw [sub_and]
  unfold subB
  have h : V (rights % 8) = V rights &&& 7#64 := by rw [← i64_and7, and_V, V_toInt]; rfl
  rw [h, BitVec.and_assoc (V rights), BitVec.and_self]
theorem may_zero (m owner want : Int) : mayB m owner 0 want = true := by unfold mayB; rw [if_pos rfl]
end Go.Proofs.YtilhiafmljmljaaDoor
namespace Go.Proofs.YtilhiafmljmljaaDoor
open Go.RowKit
theorem digit0_any (m : Int) (w : World) : Calls Tryd.prog 68 #[.int .i64 m, .int .i64 0] w fun e w' => e = .returned (.int .i64 (m / 8 % 8)) ∧ w = w' := by
  go_enter Tryd.func68, Tryd.ntmps68
  go_wp2
  go_ret
  exact ⟨ret_int (i64_and7 _), rfl⟩
theorem digit1_any (m : Int) (w : World) : Calls Tryd.prog 68 #[.int .i64 m, .int .i64 1] w fun e w' => e = .returned (.int .i64 (m % 8)) ∧ w = w' := by
  go_enter Tryd.func68, Tryd.ntmps68
  go_wp2
  go_ret
  exact ⟨ret_int (i64_and7 _), rfl⟩
theorem may_any (m owner who want : Int) (w : World) : Calls Tryd.prog 55 #[.int .i64 m, .int .i64 owner, .int .i64 who, .int .i64 want] w fun e w' => e = .returned (.bool (mayB m owner who want)) ∧ w = w' := by
  by_cases h0 : who = 0
  · subst h0
    have H : Hid (mayB m owner 0 want = true) := Lib.hid (may_zero _ _ _)
    go_enter Tryd.func55, Tryd.ntmps55
    go_wp2
    go_ret
    exact ⟨ret_bool H.out.symm, rfl⟩
  · have h0I : (who == 0) = false := by rw [beq_eq_false_iff_ne]; exact h0
    by_cases ho : owner = who
    · have hoI : (owner == who) = true := by rw [beq_iff_eq]; exact ho
      have H : Hid (mayB m owner who want = subB want (m / 8)) := Lib.hid (by unfold mayB; rw [if_neg h0, if_pos ho])
      clear h0 ho
      go_enter Tryd.func55, Tryd.ntmps55
      go_wp2_with fail
      refine (digit1_any _ _).mono ?_
      rintro e w1 ⟨rfl, rfl⟩
      go_wp2_with fail
      refine (digit0_any _ _).mono ?_
      rintro e w1 ⟨rfl, rfl⟩
      go_wp2
      go_ret
      refine ⟨ret_bool ?_, rfl⟩
      rw [H.out, i64_and7, Bool.eq_iff_iff, beq_iff_eq]
      exact sub_andNot _ _
    · have hoI : (owner == who) = false := by rw [beq_eq_false_iff_ne]; exact ho
      have H : Hid (mayB m owner who want = subB want m) := Lib.hid (by unfold mayB; rw [if_neg h0, if_neg ho])
      clear h0 ho
      go_enter Tryd.func55, Tryd.ntmps55
      go_wp2_with fail
      refine (digit1_any _ _).mono ?_
      rintro e w1 ⟨rfl, rfl⟩
      go_wp2
      go_ret
      refine ⟨ret_bool ?_, rfl⟩
      rw [H.out, i64_and7, Bool.eq_iff_iff, beq_iff_eq]
      exact sub_andNot _ _
theorem rmay_any (m owner who want : Int) (w : World) : Calls Tryd.prog 29 #[.int .i64 m, .int .i64 owner, .int .i64 who, .int .i64 want] w fun e w' => e = .returned (.bool (mayB m owner who want)) ∧ w = w' := by
  by_cases h0 : who = 0
  · subst h0
    have H : Hid (mayB m owner 0 want = true) := Lib.hid (may_zero _ _ _)
    go_enter Tryd.func29, Tryd.ntmps29
    go_wp2
    go_ret
    exact ⟨ret_bool H.out.symm, rfl⟩
  · have h0I : (who == 0) = false := by rw [beq_eq_false_iff_ne]; exact h0
    by_cases ho : owner = who
    · have hoI : (owner == who) = true := by rw [beq_iff_eq]; exact ho
      have H : Hid (mayB m owner who want = subB want (m / 8)) := Lib.hid (by unfold mayB; rw [if_neg h0, if_pos ho])
      clear h0 ho
      go_enter Tryd.func29, Tryd.ntmps29
      go_wp2
      go_ret
      refine ⟨ret_bool ?_, rfl⟩
      rw [H.out, i64_and7, i64_and7, Bool.eq_iff_iff, beq_iff_eq]
      exact sub_and8 _ _
    · have hoI : (owner == who) = false := by rw [beq_eq_false_iff_ne]; exact ho
      have H : Hid (mayB m owner who want = subB want m) := Lib.hid (by unfold mayB; rw [if_neg h0, if_neg ho])
      clear h0 ho
      go_enter Tryd.func29, Tryd.ntmps29
      go_wp2
      go_ret
      refine ⟨ret_bool ?_, rfl⟩
      rw [H.out, i64_and7, i64_and7, Bool.eq_iff_iff, beq_iff_eq]
      exact sub_and8 _ _
end Go.Proofs.YtilhiafmljmljaaDoor
