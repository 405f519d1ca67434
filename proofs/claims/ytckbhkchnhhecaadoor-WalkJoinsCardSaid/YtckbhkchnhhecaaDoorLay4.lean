/-
  Bits of numbers, and modes as texts: plain facts.
  mode: digit, May, Mask; the document's May and Mask.
-/
import Derived.Laws.BitsLemmas
import Derived.Test.YtckbhkchnhhecaaDoorMem
import Derived.Test.YtckbhkchnhhecaaDoorKit
import Derived.Test.YtckbhkchnhhecaaDoorProg
namespace Go.Proofs.YtckbhkchnhhecaaDoor
open Go

/-! ### Masks of a number of whatever sign -/
theorem i64_mask (n : Int) (k : Nat) (hk : k ≤ 6) : bits .and .i64 n (((2 ^ k - 1 : Nat) : Int)) = n % ((2 ^ k : Nat) : Int) := by
  have hk2 : 2 ^ k ≤ 2 ^ 6 := Nat.pow_le_pow_right (by decide) hk
  have hpos : 0 < 2 ^ k := Nat.two_pow_pos k
  have hm : (BitVec.ofInt 64 (((2 ^ k - 1 : Nat) : Int))).toNat = 2 ^ k - 1 := by
    rw [BitVec.ofInt_natCast, BitVec.toNat_ofNat]
    exact Nat.mod_eq_of_lt (by omega)
  have hd : (2 : Nat) ^ 64 = 2 ^ k * 2 ^ (64 - k) := by rw [← Nat.pow_add]; congr 1; omega
  have key : (BitVec.ofInt 64 n &&& BitVec.ofInt 64 (((2 ^ k - 1 : Nat) : Int))).toNat = (n % ((2 ^ 64 : Nat) : Int)).toNat % 2 ^ k := by
    rw [BitVec.toNat_and, BitVec.toNat_ofInt, hm, Nat.and_two_pow_sub_one_eq_mod]
  show IntKind.i64.wrap ((BitVec.ofInt 64 n &&& BitVec.ofInt 64 (((2 ^ k - 1 : Nat) : Int))).toNat : Nat) = _
  rw [key, IntKind.wrap_i64]
  have h1 : (((n % ((2 ^ 64 : Nat) : Int)).toNat % 2 ^ k : Nat) : Int) = n % ((2 ^ k : Nat) : Int) := by
    rw [Int.natCast_emod, Int.toNat_of_nonneg (Int.emod_nonneg _ (by decide))]
    rw [hd, Int.natCast_mul]
    exact Int.emod_emod_of_dvd _ (Int.dvd_mul_right _ _)
  rw [h1]
  have h2 := Int.emod_nonneg n (b := ((2 ^ k : Nat) : Int)) (by omega)
  have h3 := Int.emod_lt_of_pos n (b := ((2 ^ k : Nat) : Int)) (by omega)
  have h4 : ((2 ^ k : Nat) : Int) ≤ 64 := by exact_mod_cast hk2
  omega
theorem i64_and1 (n : Int) : bits .and .i64 n 1 = n % 2 := i64_mask n 1 (by decide)
theorem i64_and7 (n : Int) : bits .and .i64 n 7 = n % 8 := i64_mask n 3 (by decide)
theorem i64_and63 (n : Int) : bits .and .i64 n 63 = n % 64 := i64_mask n 6 (by decide)

/-! ### Numbers as rows of 64 bits -/
abbrev V (n : Int) : BitVec 64 := BitVec.ofInt 64 n
theorem wrap_back (x : BitVec 64) : IntKind.i64.wrap (x.toNat : Int) = x.toInt := by
  have h := x.isLt
  rw [IntKind.wrap_i64, BitVec.toInt_eq_toNat_cond]
  split <;> omega
theorem and_V (a b : Int) : bits .and .i64 a b = (V a &&& V b).toInt := wrap_back _
theorem or_V (a b : Int) : bits .or .i64 a b = (V a ||| V b).toInt := wrap_back _
theorem andNot_V (a b : Int) : bits .andNot .i64 a b = (V a &&& ~~~ V b).toInt := wrap_back _
theorem V_toInt (x : BitVec 64) : V x.toInt = x := BitVec.ofInt_toInt
theorem toInt_zero_iff (x : BitVec 64) : x.toInt = 0 ↔ x = 0#64 := by
  constructor
  · intro h
    have := V_toInt x
    rw [h] at this
    rw [← this]
    rfl
  · rintro rfl
    rfl
theorem toInt_inj_iff (x y : BitVec 64) : x.toInt = y.toInt ↔ x = y :=
  ⟨fun h => by rw [← V_toInt x, h, V_toInt], fun h => by rw [h]⟩
theorem V_shr3 (n : Int) (h1 : -9223372036854775808 ≤ n) (h2 : n ≤ 9223372036854775807) : V (n / 8) = (V n).sshiftRight 3 := by
  have h : (V n).toInt = n := by
    rw [BitVec.toInt_ofInt, Int.bmod_def]
    split <;> omega
  rw [← V_toInt ((V n).sshiftRight 3), BitVec.toInt_sshiftRight, h, Int.shiftRight_eq_div_pow]
  rfl

/-! ### Who may what -/
/-- Whether all bits of want (its lowest three) are among those of rights. -/
def subB (want rights : Int) : Bool := (V want &&& 7#64 &&& ~~~ (V rights &&& 7#64)) == 0#64
/-- Who may what. -/
def mayB (m owner who want : Int) : Bool := if who = 0 then true else subB want (if owner = who then m / 8 else m)
theorem sub_andNot (want rights : Int) : (bits .andNot .i64 (want % 8) (rights % 8) = 0) ↔ subB want rights = true := by
  rw [← i64_and7, ← i64_and7, andNot_V, and_V, and_V, V_toInt, V_toInt, toInt_zero_iff]
  unfold subB
  rw [beq_iff_eq]
  rfl
theorem bv_sub (A R : BitVec 64) : (A &&& 7#64 &&& ~~~ (R &&& 7#64)) = 0#64 ↔ A &&& 7#64 &&& R = A &&& 7#64 := by
  constructor
  · intro h
    apply BitVec.eq_of_getLsbD_eq
    intro i hi
    have := congrArg (fun x : BitVec 64 => x.getLsbD i) h
    simp only [BitVec.getLsbD_and, BitVec.getLsbD_not, BitVec.getLsbD_zero, hi, decide_true, Bool.true_and] at this ⊢
    revert this
    cases A.getLsbD i <;> cases R.getLsbD i <;> cases (7#64).getLsbD i <;> simp
  · intro h
    apply BitVec.eq_of_getLsbD_eq
    intro i hi
    have := congrArg (fun x : BitVec 64 => x.getLsbD i) h
    simp only [BitVec.getLsbD_and, BitVec.getLsbD_not, BitVec.getLsbD_zero, hi, decide_true, Bool.true_and] at this ⊢
    revert this
    cases A.getLsbD i <;> cases R.getLsbD i <;> cases (7#64).getLsbD i <;> simp
theorem sub_and (want rights : Int) : (bits .and .i64 (want % 8) rights = want % 8) ↔ subB want rights = true := by
  have h : want % 8 = (V want &&& V 7).toInt := by rw [← i64_and7, and_V]
  rw [h, and_V, V_toInt, toInt_inj_iff]
  unfold subB
  rw [beq_iff_eq, bv_sub]
  rfl
theorem sub_and8 (want rights : Int) : (bits .and .i64 (want % 8) (rights % 8) = want % 8) ↔ subB want rights = true := by
  rw [sub_and]
  unfold subB
  have h : V (rights % 8) = V rights &&& 7#64 := by rw [← i64_and7, and_V, V_toInt]; rfl
  rw [h, BitVec.and_assoc (V rights), BitVec.and_self]

theorem sub_or (want r s : Int) (x : Int) (hx : V x = V r ||| V s) (h : subB want r = true) : subB want x = true := by
  unfold subB at h ⊢
  rw [beq_iff_eq] at h ⊢
  rw [hx]
  apply BitVec.eq_of_getLsbD_eq
  intro i hi
  have := congrArg (fun x : BitVec 64 => x.getLsbD i) h
  simp only [BitVec.getLsbD_and, BitVec.getLsbD_or, BitVec.getLsbD_not, BitVec.getLsbD_zero, hi, decide_true, Bool.true_and] at this ⊢
  revert this
  cases (V want).getLsbD i <;> cases (V r).getLsbD i <;> cases (V s).getLsbD i <;> cases (7#64).getLsbD i <;> simp
theorem sub_less (want less r : Int) (h : subB want r = true) : subB (bits .and .i64 want less) r = true := by
  unfold subB at h ⊢
  rw [beq_iff_eq] at h ⊢
  rw [and_V, V_toInt]
  apply BitVec.eq_of_getLsbD_eq
  intro i hi
  have := congrArg (fun x : BitVec 64 => x.getLsbD i) h
  simp only [BitVec.getLsbD_and, BitVec.getLsbD_not, BitVec.getLsbD_zero, hi, decide_true, Bool.true_and] at this ⊢
  revert this
  cases (V want).getLsbD i <;> cases (V r).getLsbD i <;> cases (V less).getLsbD i <;> cases (7#64).getLsbD i <;> simp
theorem or_range (a b : Int) : -9223372036854775808 ≤ bits .or .i64 a b ∧ bits .or .i64 a b ≤ 9223372036854775807 := by
  rw [or_V]
  have h1 := BitVec.le_toInt (V a ||| V b)
  have h2 := BitVec.toInt_lt (x := V a ||| V b)
  omega
theorem may_more (m more owner who want : Int) (h1 : -9223372036854775808 ≤ m) (h2 : m ≤ 9223372036854775807) (k1 : -9223372036854775808 ≤ more) (k2 : more ≤ 9223372036854775807) (h : mayB m owner who want = true) : mayB (bits .or .i64 m more) owner who want = true := by
  unfold mayB at h ⊢
  by_cases hw : who = 0
  · rw [if_pos hw]
  · rw [if_neg hw] at h ⊢
    by_cases ho : owner = who
    · rw [if_pos ho] at h ⊢
      refine sub_or want (m / 8) (more / 8) _ ?_ h
      obtain ⟨r1, r2⟩ := or_range m more
      rw [V_shr3 _ r1 r2, V_shr3 _ h1 h2, V_shr3 _ k1 k2, or_V, V_toInt]
      rw [BitVec.sshiftRight_or_distrib]
    · rw [if_neg ho] at h ⊢
      exact sub_or want m more _ (by rw [or_V, V_toInt]) h
theorem may_less (m owner who want less : Int) (h : mayB m owner who want = true) : mayB m owner who (bits .and .i64 want less) = true := by
  unfold mayB at h ⊢
  by_cases hw : who = 0
  · rw [if_pos hw]
  · rw [if_neg hw] at h ⊢
    exact sub_less want less _ h
theorem may_zero (m owner want : Int) : mayB m owner 0 want = true := by unfold mayB; rw [if_pos rfl]

/-- The mode without the bits of the mask. -/
def maskI (m u : Int) : Int := bits .andNot .i64 (m % 64) u
theorem mask_V (m u : Int) : maskI m u = (V m &&& 63#64 &&& ~~~ V u).toInt := by
  unfold maskI
  rw [← i64_and63, andNot_V, and_V, V_toInt]
  rfl
theorem mask_none (m u : Int) : bits .and .i64 (maskI m u) u = 0 := by
  rw [mask_V, and_V, V_toInt, toInt_zero_iff]
  apply BitVec.eq_of_getLsbD_eq
  intro i hi
  simp only [BitVec.getLsbD_and, BitVec.getLsbD_not, BitVec.getLsbD_zero, hi, decide_true, Bool.true_and]
  cases (V m).getLsbD i <;> cases (V u).getLsbD i <;> cases (63#64).getLsbD i <;> simp
theorem mask_keeps (m u : Int) : bits .or .i64 (maskI m u) (bits .and .i64 m u % 64) = m % 64 := by
  rw [← i64_and63, ← i64_and63, mask_V, or_V, and_V, and_V, and_V, V_toInt, V_toInt, V_toInt, toInt_inj_iff]
  show (V m &&& 63#64 &&& ~~~ V u) ||| (V m &&& V u &&& 63#64) = V m &&& 63#64
  apply BitVec.eq_of_getLsbD_eq
  intro i hi
  simp only [BitVec.getLsbD_and, BitVec.getLsbD_or, BitVec.getLsbD_not, hi, decide_true, Bool.true_and]
  cases (V m).getLsbD i <;> cases (V u).getLsbD i <;> cases (63#64).getLsbD i <;> simp

def oct (c : UInt8) : Bool := decide (48 ≤ c.toNat) && decide (c.toNat ≤ 55)
def octV (l : Str) : Int := l.foldl (fun n c => 8 * n + ((c.toNat : Int) - 48)) 0
def isMode (l : Str) : Bool := !l.isEmpty && decide (l.length ≤ 2) && l.all oct
/-- What Parse answers. -/
def parseN (l : Str) : Int := if isMode l then octV l else 0
theorem octV_snoc (l : Str) (c : UInt8) : octV (l ++ [c]) = 8 * octV l + ((c.toNat : Int) - 48) := by simp [octV]
theorem octV_one (l : Str) (k : Nat) (hk : k ≤ 1) (hl : (l.take k).all oct = true) : 0 ≤ octV (l.take k) ∧ octV (l.take k) ≤ 7 := by
  cases l with
  | nil => simp [octV]
  | cons c r =>
    obtain rfl | rfl : k = 0 ∨ k = 1 := by omega
    · simp [octV]
    · simp [oct] at hl
      simp [octV]
      omega
theorem or_join (x : Int) (c : Int) (hx : 0 ≤ x) (hx7 : x ≤ 7) (hc : 0 ≤ c) (hc7 : c ≤ 7) : bits .or .i64 (x * 8) c = 8 * x + c := by
  obtain ⟨a, rfl⟩ := Int.eq_ofNat_of_zero_le hx
  obtain ⟨b, rfl⟩ := Int.eq_ofNat_of_zero_le hc
  have ha : a < 8 := by omega
  have hb : b < 8 := by omega
  have h : ∀ (a : Fin 8) (b : Fin 8), bits .or .i64 ((a.val : Int) * 8) (b.val : Int) = 8 * (a.val : Int) + (b.val : Int) := by decide +kernel
  exact h ⟨a, ha⟩ ⟨b, hb⟩

/-- A digit's byte. -/
def octC (r : Int) : UInt8 := UInt8.ofNat (48 + r.toNat)
theorem octC_nat (r : Int) (h0 : 0 ≤ r) (h7 : r ≤ 7) : ((octC r).toNat : Int) = 48 + r := by
  unfold octC
  rw [UInt8.toNat_ofNat']
  omega
/-- Both octal digits. -/
def printL (m : Int) : Str := [octC (m / 8 % 8), octC (m % 8)]
theorem oct_octC (r : Int) (h0 : 0 ≤ r) (h7 : r ≤ 7) : oct (octC r) = true := by
  have := octC_nat r h0 h7
  unfold oct
  simp
  omega
theorem parse_print (m : Int) : isMode (printL m) = true ∧ parseN (printL m) = m % 64 := by
  have h1 := oct_octC (m / 8 % 8) (by omega) (by omega)
  have h2 := oct_octC (m % 8) (by omega) (by omega)
  have h3 := octC_nat (m / 8 % 8) (by omega) (by omega)
  have h4 := octC_nat (m % 8) (by omega) (by omega)
  have hm : isMode (printL m) = true := by simp [isMode, printL, h1, h2]
  refine ⟨hm, ?_⟩
  unfold parseN
  rw [if_pos hm]
  simp only [octV, printL, List.foldl_cons, List.foldl_nil, h3, h4]
  omega

/-- The sign of a right, if its bit is there. -/
def sgn (b : Int) (c : UInt8) : UInt8 := if b % 2 = 1 then c else 45
/-- A digit's signs. -/
def symL (r : Int) : Str := [sgn (r / 4) 114, sgn (r / 2) 119, sgn r 120]
/-- A mode's signs. -/
def textL (m : Int) : Str := symL (m / 8) ++ symL m
theorem symL_mod (r : Int) : symL (r % 8) = symL r := by
  unfold symL sgn
  rw [show r % 8 / 4 % 2 = r / 4 % 2 by omega, show r % 8 / 2 % 2 = r / 2 % 2 by omega, show r % 8 % 2 = r % 2 by omega]
theorem textL_mod (m : Int) : textL (m % 64) = textL m := by
  unfold textL
  rw [← symL_mod (m % 64 / 8), ← symL_mod (m % 64), ← symL_mod (m / 8), ← symL_mod m, show m % 64 / 8 % 8 = m / 8 % 8 by omega, show m % 64 % 8 = m % 8 by omega]
theorem textL_len (m : Int) : (textL m).length = 6 := rfl
theorem bit_r (r : Int) (h0 : 0 ≤ r) (h7 : r ≤ 7) : bits .and .i64 r 4 = r / 4 % 2 * 4 ∧ bits .and .i64 r 2 = r / 2 % 2 * 2 ∧ bits .and .i64 r 1 = r % 2 := by
  obtain ⟨a, rfl⟩ := Int.eq_ofNat_of_zero_le h0
  have ha : a < 8 := by omega
  have h : ∀ (a : Fin 8), bits .and .i64 (a.val : Int) 4 = (a.val : Int) / 4 % 2 * 4 ∧ bits .and .i64 (a.val : Int) 2 = (a.val : Int) / 2 % 2 * 2 ∧ bits .and .i64 (a.val : Int) 1 = (a.val : Int) % 2 := by decide +kernel
  exact h ⟨a, ha⟩
end Go.Proofs.YtckbhkchnhhecaaDoor
namespace Go.Proofs.YtckbhkchnhhecaaDoor
open Go.RowKit

theorem digit0_any (m : Int) (w : World) : Calls Tryd.prog 62 #[.int .i64 m, .int .i64 0] w fun e w' => e = .returned (.int .i64 (m / 8 % 8)) ∧ w = w' := by
  go_enter Tryd.func62, Tryd.ntmps62
  go_wp2
  go_ret
  exact ⟨ret_int (i64_and7 _), rfl⟩
theorem digit1_any (m : Int) (w : World) : Calls Tryd.prog 62 #[.int .i64 m, .int .i64 1] w fun e w' => e = .returned (.int .i64 (m % 8)) ∧ w = w' := by
  go_enter Tryd.func62, Tryd.ntmps62
  go_wp2
  go_ret
  exact ⟨ret_int (i64_and7 _), rfl⟩

theorem may_any (m owner who want : Int) (w : World) : Calls Tryd.prog 46 #[.int .i64 m, .int .i64 owner, .int .i64 who, .int .i64 want] w fun e w' => e = .returned (.bool (mayB m owner who want)) ∧ w = w' := by
  by_cases h0 : who = 0
  · subst h0
    have H : Hid (mayB m owner 0 want = true) := Lib.hid (may_zero _ _ _)
    go_enter Tryd.func46, Tryd.ntmps46
    go_wp2
    go_ret
    exact ⟨ret_bool H.out.symm, rfl⟩
  · have h0I : (who == 0) = false := by rw [beq_eq_false_iff_ne]; exact h0
    by_cases ho : owner = who
    · have hoI : (owner == who) = true := by rw [beq_iff_eq]; exact ho
      have H : Hid (mayB m owner who want = subB want (m / 8)) := Lib.hid (by unfold mayB; rw [if_neg h0, if_pos ho])
      clear h0 ho
      go_enter Tryd.func46, Tryd.ntmps46
      go_wp2_with fail
      refine (digit1_any _ _).mono ?_
      rintro e w1 ⟨rfl, rfl⟩
      go_wp2_with fail
      refine (digit0_any _ _).mono ?_
      rintro e w1 ⟨rfl, rfl⟩
      go_wp2
      go_ret
      refine ⟨ret_bool ?_, rfl⟩
      rw [H.out, i64_and7, Bool.eq_iff_iff, beq_iff_eq]
      exact sub_andNot _ _
    · have hoI : (owner == who) = false := by rw [beq_eq_false_iff_ne]; exact ho
      have H : Hid (mayB m owner who want = subB want m) := Lib.hid (by unfold mayB; rw [if_neg h0, if_neg ho])
      clear h0 ho
      go_enter Tryd.func46, Tryd.ntmps46
      go_wp2_with fail
      refine (digit1_any _ _).mono ?_
      rintro e w1 ⟨rfl, rfl⟩
      go_wp2
      go_ret
      refine ⟨ret_bool ?_, rfl⟩
      rw [H.out, i64_and7, Bool.eq_iff_iff, beq_iff_eq]
      exact sub_andNot _ _

theorem rmay_any (m owner who want : Int) (w : World) : Calls Tryd.prog 27 #[.int .i64 m, .int .i64 owner, .int .i64 who, .int .i64 want] w fun e w' => e = .returned (.bool (mayB m owner who want)) ∧ w = w' := by
  by_cases h0 : who = 0
  · subst h0
    have H : Hid (mayB m owner 0 want = true) := Lib.hid (may_zero _ _ _)
    go_enter Tryd.func27, Tryd.ntmps27
    go_wp2
    go_ret
    exact ⟨ret_bool H.out.symm, rfl⟩
  · have h0I : (who == 0) = false := by rw [beq_eq_false_iff_ne]; exact h0
    by_cases ho : owner = who
    · have hoI : (owner == who) = true := by rw [beq_iff_eq]; exact ho
      have H : Hid (mayB m owner who want = subB want (m / 8)) := Lib.hid (by unfold mayB; rw [if_neg h0, if_pos ho])
      clear h0 ho
      go_enter Tryd.func27, Tryd.ntmps27
      go_wp2
      go_ret
      refine ⟨ret_bool ?_, rfl⟩
      rw [H.out, i64_and7, i64_and7, Bool.eq_iff_iff, beq_iff_eq]
      exact sub_and8 _ _
    · have hoI : (owner == who) = false := by rw [beq_eq_false_iff_ne]; exact ho
      have H : Hid (mayB m owner who want = subB want m) := Lib.hid (by unfold mayB; rw [if_neg h0, if_neg ho])
      clear h0 ho
      go_enter Tryd.func27, Tryd.ntmps27
      go_wp2
      go_ret
      refine ⟨ret_bool ?_, rfl⟩
      rw [H.out, i64_and7, i64_and7, Bool.eq_iff_iff, beq_iff_eq]
      exact sub_and8 _ _

end Go.Proofs.YtckbhkchnhhecaaDoor
