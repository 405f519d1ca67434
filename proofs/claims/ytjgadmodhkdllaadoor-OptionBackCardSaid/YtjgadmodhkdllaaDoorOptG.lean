/-
  The reference's known, Value, Has.
-/
import Derived.Test.YtjgadmodhkdllaaDoorOptE
namespace Go.Proofs.YtjgadmodhkdllaaDoor
open Go.RowKit Go.Shelf
attribute [local go_sem ↓] Go.wp_at_zero Go.wp_at_succ

/-- Of the first k bytes of a spec: is c one; does one of them have the mark behind it? -/
def hasTo (s : Str) (c : UInt8) (k : Nat) : Bool := (s.take k).contains c
def takesTo (s : Str) (c : UInt8) (k : Nat) : Bool := (List.range k).any fun i => s[i]? == some c && s[i + 1]? == some 58
theorem hasTo_succ (s : Str) (c : UInt8) (k : Nat) (h : k < s.length) : hasTo s c (k + 1) = (hasTo s c k || s[k] == c) := by
  unfold hasTo
  rw [List.take_succ_eq_append_getElem h, Bool.eq_iff_iff]
  simp only [List.contains_iff_mem, List.mem_append, List.mem_singleton, Bool.or_eq_true, beq_iff_eq]
  constructor
  · rintro (h | h)
    · exact .inl h
    · exact .inr h.symm
  · rintro (h | h)
    · exact .inl h
    · exact .inr h.symm
theorem takesTo_succ (s : Str) (c : UInt8) (k : Nat) : takesTo s c (k + 1) = (takesTo s c k || (s[k]? == some c && s[k + 1]? == some 58)) := by
  simp [takesTo, List.range_succ]
theorem takesTo_end (s : Str) (c : UInt8) : takesTo s c s.length = takesL s c := by
  induction s with
  | nil => rfl
  | cons a s ih =>
    cases s with
    | nil => simp [takesTo, takesL]
    | cons b r =>
      rw [takesL, ← ih]
      unfold takesTo
      rw [List.length_cons, List.range_succ_eq_map, List.any_cons, List.any_map]
      congr 1
theorem sign_yes8 {a b : UInt8} (h : a = b) : ((a.toNat : Int) == (b.toNat : Int)) = true := by rw [h]; simp
def kindB (s : Str) (c : UInt8) : Bool × Bool := if c = 58 then (false, false) else (s.contains c, takesL s c)

set_option maxRecDepth 100000 in
set_option maxHeartbeats 2000000 in
theorem known_any (s : Str) (c : UInt8) (w : World) (hs : s.length ≤ 65000) :
    Calls Tryd.prog 23 #[.string (bs s), .int .u8 c.toNat] w fun e w' => e = .returned (.tuple #[.bool (kindB s c).1, .bool (kindB s c).2]) ∧ w = w' := by
  by_cases hc : c = 58
  · subst hc
    go_enter Tryd.func23, Tryd.ntmps23
    go_wp2_with fail
    go_ret2
    exact ⟨rfl, rfl⟩
  · have hne : ((c.toNat : Int) == 58) = false := u8_ne (k := 58) (by decide) hc
    have hkb : kindB s c = (s.contains c, takesL s c) := by unfold kindB; rw [if_neg hc]
    have HK := Lib.hid hkb
    clear hc hkb
    go_enter Tryd.func23, Tryd.ntmps23
    go_wp2_with fail
    go_loop [6, 7, 8] (fun is tk i => ∃ k : Nat, i = .int .i64 k ∧ k ≤ s.length ∧ is = .bool (hasTo s c k) ∧ tk = .bool (takesTo s c k)) (fun _ _ i => s.length - (intOf i).toNat)
    case atStart => exact ⟨0, rfl, Nat.zero_le _, rfl, rfl⟩
    case round =>
      obtain ⟨k, rfl, hk, rfl, rfl⟩ := hrel
      by_cases hlt : k < s.length
      · have hg : ∀ h, (bs s)[k]'h = s[k] := fun h => bs_get s k h
        have h1 := hasTo_succ s c k hlt
        have h2 := takesTo_succ s c k
        rw [List.getElem?_eq_getElem hlt] at h2
        by_cases hq : s[k] = c
        · have hI := sign_yes8 hq
          have HA : Hid (hasTo s c (k + 1) = true) := Lib.hid (by rw [h1, hq]; simp)
          by_cases ht : takesTo s c k = true
          · have HB : Hid (takesTo s c (k + 1) = true) := Lib.hid (by rw [h2, ht]; rfl)
            clear h1 h2 hq
            go_wp2_with fail
            go_round
            case rel => exact ⟨k + 1, by go_num, hlt, by rw [HA.out], by rw [HB.out]⟩
            case measure => simp [intOf]; omega
          · have ht' : takesTo s c k = false := by simpa using ht
            clear ht
            by_cases hl1 : k + 1 < s.length
            · have hg1 : ∀ h, (bs s)[k + 1]'h = s[k + 1] := fun h => bs_get s (k + 1) h
              rw [List.getElem?_eq_getElem hl1] at h2
              have hll : decide ((k : Int) + 1 < (s.length : Int)) = true := by simp; omega
              by_cases hm : s[k + 1] = 58
              · have HB : Hid (takesTo s c (k + 1) = true) := Lib.hid (by rw [h2, hm, hq]; simp)
                have hI2 : ((s[k + 1].toNat : Int) == 58) = true := by rw [hm]; rfl
                clear h1 h2 hq hm
                go_wp2_with fail
                go_round
                case rel => exact ⟨k + 1, by go_num, hlt, by rw [HA.out], by rw [HB.out]⟩
                case measure => simp [intOf]; omega
              · have HB : Hid (takesTo s c (k + 1) = false) := Lib.hid (by rw [h2, ht']; simp [hm])
                have hI2 : ((s[k + 1].toNat : Int) == 58) = false := u8_ne (k := 58) (by decide) hm
                clear h1 h2 hq hm
                go_wp2_with fail
                go_round
                case rel => exact ⟨k + 1, by go_num, hlt, by rw [HA.out], by rw [HB.out]⟩
                case measure => simp [intOf]; omega
            · have hll : decide ((k : Int) + 1 < (s.length : Int)) = false := by simp; omega
              have HB : Hid (takesTo s c (k + 1) = false) := Lib.hid (by rw [h2, ht', List.getElem?_eq_none (by omega)]; simp)
              clear h1 h2 hq
              go_wp2_with fail
              go_round
              case rel => exact ⟨k + 1, by go_num, hlt, by rw [HA.out], by rw [HB.out]⟩
              case measure => simp [intOf]; omega
        · have hI := u8_eq_false hq
          have HA : Hid (hasTo s c (k + 1) = hasTo s c k) := Lib.hid (by rw [h1]; simp [hq])
          have HB : Hid (takesTo s c (k + 1) = takesTo s c k) := Lib.hid (by rw [h2]; simp [hq])
          clear h1 h2 hq
          go_wp2_with fail
          go_round
          case rel => exact ⟨k + 1, by go_num, hlt, by rw [HA.out], by rw [HB.out]⟩
          case measure => simp [intOf]; omega
      · have hke : k = s.length := by omega
        have HT : Hid (hasTo s c k = s.contains c) := Lib.hid (by unfold hasTo; rw [hke, List.take_length])
        have HU : Hid (takesTo s c k = takesL s c) := Lib.hid (by rw [hke, takesTo_end])
        have hI2 : decide (k < s.length) = false := by simp; omega
        clear hke hlt
        go_wp2_with fail
        go_ret2
        exact ⟨by rw [HK.out, HT.out, HU.out]; rfl, rfl⟩

def RValIs (o : Option Str) (e : Ending) (W W' : World) : Prop := e = .returned (.tuple #[.string (bs (vstr o)), .bool o.isSome]) ∧ W = W'
set_option maxRecDepth 100000 in
set_option maxHeartbeats 1000000 in
theorem rvalue_any (B : Nat) (v : Value) (l : List FlagL) (c : UInt8) (w : World) (hv : Rd B 2 v l.length (flags l) w) (hl : l.length ≤ 10000000) :
    Calls Tryd.prog 17 #[v, .int .u8 c.toNat] w fun e w' => RValIs (valueL l c) e w w' := by
  obtain ⟨ao, cap, rfl, _, _⟩ := hv.form
  have HV := Lib.hid hv
  clear hv
  go_enter Tryd.func17, Tryd.ntmps17
  go_wp2_with fail
  go_loop [6] (fun i => ∃ k : Nat, i = .int .i64 ((k : Int) - 1) ∧ k ≤ l.length ∧ Hid (valueL l c = valueL (l.take k) c)) (fun i => (intOf i + 1).toNat)
  case atStart => exact ⟨l.length, rfl, Nat.le_refl _, Lib.hid (by rw [List.take_length])⟩
  case round =>
    obtain ⟨k, rfl, hk, hV⟩ := hrel
    cases k with
    | zero =>
      rw [show (((0 : Nat) : Int) - 1) = -1 from rfl]
      go_wp2_with fail
      go_ret2
      exact ⟨by rw [hV.out]; rfl, rfl⟩
    | succ j =>
      rw [show (((j + 1 : Nat) : Int) - 1) = (j : Int) by omega]
      have hlt : j < l.length := by omega
      obtain ⟨b, off, cap', e, hn, hm, hb, hlen, hc⟩ := HV.out.at (by omega)
      injection e with e1 _ e2
      subst e1
      subst e2
      have hc0 := hc _ _ (flags_at0 l j hlt)
      have hc1 : w.cell? ⟨b, off + j * 2 + 1, none⟩ = _ := hc (j * 2 + 1) _ (flags_at1 l j hlt)
      have ht : l.take (j + 1) = l.take j ++ [l[j]] := List.take_succ_eq_append_getElem hlt
      clear hc
      by_cases hq : (l[j]).1 = c
      · have hI := sign_yes8 hq
        have HR : Hid (valueL l c = some (l[j]).2) := Lib.hid (by rw [hV.out, ht]; exact valueL_yes _ _ _ hq)
        clear hq ht
        go_wp2_with fail
        go_ret2
        exact ⟨by rw [HR.out]; rfl, rfl⟩
      · have hI := u8_eq_false hq
        have HR : Hid (valueL l c = valueL (l.take j) c) := Lib.hid (by rw [hV.out, ht]; exact valueL_no _ _ _ hq)
        clear hq ht
        go_wp2_with fail
        go_round
        case rel => exact ⟨j, rfl, by omega, HR⟩
        case measure => simp [intOf]
theorem rhas_any (B : Nat) (v : Value) (l : List FlagL) (c : UInt8) (w : World) (hv : Rd B 2 v l.length (flags l) w) (hl : l.length ≤ 10000000) :
    Calls Tryd.prog 19 #[v, .int .u8 c.toNat] w fun e w' => e = .returned (.bool (valueL l c).isSome) ∧ w = w' := by
  go_enter Tryd.func19, Tryd.ntmps19
  go_wp2_with fail
  refine (rvalue_any B v l c _ hv hl).mono ?_
  rintro e w1 ⟨rfl, rfl⟩
  go_wp2_with fail
  go_ret
  exact ⟨rfl, rfl⟩
end Go.Proofs.YtjgadmodhkdllaaDoor
