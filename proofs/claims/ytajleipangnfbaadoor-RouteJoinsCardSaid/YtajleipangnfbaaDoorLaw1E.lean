/-
  The walk of RouteSlashes.
-/
import Derived.Test.YtajleipangnfbaaDoorLaw1D
import Derived.OpenShut
namespace Go.Proofs.YtajleipangnfbaaDoor
open Go.RowKit Go.Shelf

/-- q is m with more slashes where there is one. -/
structure SL (q m : List UInt8) : Prop where
  eqv : ∀ rest, parts (q ++ rest) = parts (m ++ rest)
  pre : Lib.hasPrefix q [47] = Lib.hasPrefix m [47]
  suf : Lib.hasSuffix q [47] = Lib.hasSuffix m [47]
  nil : q = [] ↔ m = []

theorem SL_nil : SL [] [] := ⟨fun _ => rfl, rfl, rfl, Iff.rfl⟩
theorem suf_snoc (m : List UInt8) (c : UInt8) : Lib.hasSuffix (m ++ [c]) [47] = (c == 47) := by
  rw [suf_eq _ (by simp)]; simp
theorem SL_byte {q m : List UInt8} (h : SL q m) (c : UInt8) : SL (q ++ [c]) (m ++ [c]) := by
  refine ⟨fun rest => by rw [List.append_assoc, List.append_assoc]; exact h.eqv _, ?_, by rw [suf_snoc, suf_snoc], by simp⟩
  by_cases hq : q = []
  · have hm := h.nil.1 hq
    rw [hq, hm]
  · have hm : ¬ m = [] := fun e => hq (h.nil.2 e)
    rw [hasPrefix_app hq, hasPrefix_app hm]; exact h.pre
theorem SL_slash {q m : List UInt8} (h : SL q (m ++ [47])) : SL (q ++ [47]) (m ++ [47]) := by
  have hq : q ≠ [] := fun e => by have := h.nil.1 e; simp at this
  refine ⟨fun rest => ?_, by rw [hasPrefix_app hq]; exact h.pre, by rw [suf_snoc, suf_snoc], by simp⟩
  rw [List.append_assoc, h.eqv]
  have e : ∀ r : List UInt8, parts (47 :: r) = parts r := fun r => by
    have := parts_app [] r; rw [parts_nil] at this; simpa using this
  simp only [List.append_assoc, List.singleton_append]
  rw [parts_app, e, parts_app]
theorem base_parts {l : List UInt8} (h : l ≠ []) (h2 : parts l ≠ []) : baseL l = ((parts l).getLast?).getD [] := by
  have hs : spans l ≠ [] := fun e => h2 ((spans_nil_iff l).1 e)
  rw [base_some h hs]
  unfold lastOf parts
  rw [List.getLast?_map, List.getLast?_eq_some_getLast hs]; rfl
theorem SL_base {q m : List UInt8} (h : SL q m) : parts q = parts m ∧ baseL q = baseL m := by
  have hp : parts q = parts m := by have := h.eqv []; simpa using this
  refine ⟨hp, ?_⟩
  by_cases hq : q = []
  · have hm := h.nil.1 hq; rw [hq, hm]
  · have hm : ¬ m = [] := fun e => hq (h.nil.2 e)
    by_cases hn : parts q = []
    · rw [base_none hq ((spans_nil_iff q).2 hn), base_none hm ((spans_nil_iff m).2 (hp ▸ hn))]
    · rw [base_parts hq hn, base_parts hm (hp ▸ hn), hp]
def SLat (l q : List UInt8) (i : Nat) : Prop := SL q (l.take i)
theorem SLat_byte {l q : List UInt8} {i : Nat} (h : SLat l q i) (hi : i < l.length) : SLat l (q ++ [l[i]]) (i + 1) := by
  unfold SLat at *; rw [List.take_succ_eq_append_getElem hi]; exact SL_byte h _
theorem SLat_slash {l q : List UInt8} {i : Nat} (h : SLat l q (i + 1)) (hi : i < l.length) (hc : l[i] = 47) : SLat l (q ++ [47]) (i + 1) := by
  have e := List.take_succ_eq_append_getElem hi
  rw [hc] at e
  unfold SLat at *
  rw [e] at h ⊢
  exact SL_slash h

theorem split_list (q : List UInt8) (hq : q.length ≤ 65000) (w : World) :
    Calls Tryd.prog 10 #[.string ⟨q.toArray⟩] w fun e W' => ∃ v, e = .returned (.tuple #[v, .bool (Lib.hasPrefix q [47]), .bool (Lib.hasSuffix q [47])]) ∧
      W'.ownsRow w.heap.size 9 1 v (parts q).length (strs (parts q)) ∧ Below w.heap.size w W' :=
  split_any ⟨q.toArray⟩ (by rw [← data_len]; exact hq) w
theorem base_list (q : List UInt8) (hq : q.length ≤ 65000) (w : World) :
    Calls Tryd.prog 17 #[.string ⟨q.toArray⟩] w fun e W' => e = .returned (.string ⟨(baseL q).toArray⟩) ∧ Below w.heap.size w W' :=
  base_any ⟨q.toArray⟩ (by rw [← data_len]; exact hq) w

set_option maxRecDepth 100000 in
set_option maxHeartbeats 2000000 in
theorem slashes_small (p : ByteArray) (a : Int) (hp : p.size ≤ 100) (ha0 : 0 ≤ a) (ha1 : a ≤ 255) (w : World) : Calls Tryd.prog 7 #[.string p, .int .u8 a] w fun e W' => e = .returned (.bool true) ∧ Below w.heap.size w W' := by
  have h1 : decide ((100 : Int) < (p.size : Int)) = false := by simp; omega
  have hp' : p.size ≤ 65000 := by omega
  have hln : (parts p.data.toList).length ≤ 65000 := by have := spans_len p.data.toList; rw [data_len] at this; simp only [parts, List.length_map]; omega
  go_enter Tryd.func7, Tryd.ntmps7
  go_wp2_with fail
  refine (shown_any _).mono ?_
  rintro e w1 ⟨rfl, hb1⟩
  go_wp2_with fail
  go_loop [5, 6] (fun t i => ∃ (k : Nat) (q : List UInt8), t = .string ⟨q.toArray⟩ ∧ i = .int .i64 k ∧ k ≤ p.size ∧ q.length ≤ 3 * k ∧ Hid (SLat p.data.toList q k)) (fun _ i => p.size - (intOf i).toNat)
  case atStart => exact ⟨0, [], rfl, rfl, Nat.zero_le _, Nat.zero_le _, Lib.hid SL_nil⟩
  case round =>
    obtain ⟨k, q, rfl, rfl, hk, hql, hsl⟩ := hrel
    by_cases hlt : k < p.size
    · have hll : k < p.data.toList.length := by rw [data_len]; exact hlt
      have hgl : p.data.toList[k]'hll = p[k]'hlt := rfl
      obtain ⟨q', hq'⟩ : ∃ q', q' = q ++ [p[k]'hlt] := ⟨_, rfl⟩
      have hsl' : Hid (SLat p.data.toList q' (k + 1)) := Lib.hid (by rw [hq', ← hgl]; exact SLat_byte hsl.out hll)
      have hql' : q'.length ≤ 3 * k + 1 := by rw [hq']; simp; omega
      have hcat : (⟨q.toArray⟩ : ByteArray) ++ p.extract k (k + 1) = ⟨q'.toArray⟩ := by rw [hq', cat_one p k hlt q]
      have hroom : ¬ 9223372036854775807 < q.length + (min (k + 1) p.size - k) := by omega
      have g1 : (0 : Int) ≤ (k : Int) := by omega
      have g2 : (k : Int) ≤ (k : Int) + 1 := by omega
      have g3 : (k : Int) + 1 ≤ (p.size : Int) := by omega
      by_cases hc : p[k]'hlt = 47
      · have hcI : (((p[k]'hlt).toNat : Int) == 47) = true := by rw [hc]; rfl
        have HC := Lib.hid (hgl.trans hc)
        clear hc hq' hgl
        go_wp2_with fail
        go_loop [5, 7] (fun t i => ∃ (j : Nat) (s : List UInt8), t = .string ⟨s.toArray⟩ ∧ i = .int .i64 j ∧ j ≤ 2 ∧ s.length ≤ 3 * k + 1 + j ∧ Hid (SLat p.data.toList s (k + 1))) (fun _ i => 3 - (intOf i).toNat)
        case atStart => exact ⟨0, q', rfl, rfl, by omega, by omega, hsl'⟩
        case round =>
          obtain ⟨j, s, rfl, rfl, hj, hsl2, hss⟩ := hrel
          by_cases hjr : (j : Int) < (a + k) % 3
          · have hj2 : j ≤ 1 := by omega
            have hss' : Hid (SLat p.data.toList (s ++ [47]) (k + 1)) := Lib.hid (SLat_slash hss.out hll HC.out)
            have hcat2 : (⟨s.toArray⟩ : ByteArray) ++ ⟨#[47]⟩ = ⟨(s ++ [47]).toArray⟩ := by apply ByteArray.ext; simp
            have hroom2 : ¬ 9223372036854775807 < s.length + 1 := by omega
            go_wp2
            go_round
            case rel => exact ⟨j + 1, s ++ [47], rfl, by go_num, by omega, by simp; omega, hss'⟩
            case measure => simp [intOf]; omega
          · have hjr' : (a + k) % 3 ≤ (j : Int) := by omega
            go_wp2
            go_round
            case rel => exact ⟨k + 1, s, rfl, by go_num, by omega, by omega, hss⟩
            case measure => simp [intOf]; omega
      · have hcI : (((p[k]'hlt).toNat : Int) == 47) = false := by rw [byte_eq, beq_eq_false_iff_ne]; exact hc
        clear hc hq' hgl hll
        go_wp2_with fail
        go_loop [5, 7] (fun t i => t = .string ⟨q'.toArray⟩ ∧ i = .int .i64 0) (fun _ _ => 0)
        case atStart => exact ⟨rfl, rfl⟩
        case round =>
          obtain ⟨rfl, rfl⟩ := hrel
          go_wp2
          go_round
          case rel => exact ⟨k + 1, q', rfl, by go_num, by omega, by omega, hsl'⟩
          case measure => simp [intOf]; omega
    · have hSL : SL q p.data.toList := by
        have := hsl.out
        unfold SLat at this
        rwa [List.take_of_length_le (by rw [data_len]; omega)] at this
      obtain ⟨e1, e2⟩ := SL_base hSL
      have E0 : Hid (parts q = parts p.data.toList ∧ baseL q = baseL p.data.toList ∧ Lib.hasPrefix q [47] = Lib.hasPrefix p.data.toList [47] ∧ Lib.hasSuffix q [47] = Lib.hasSuffix p.data.toList [47]) := Lib.hid ⟨e1, e2, hSL.pre, hSL.suf⟩
      have hq65 : q.length ≤ 65000 := by omega
      clear e1 e2 hSL
      go_wp2_with fail
      refine (split_any _ hp' _).mono ?_
      rintro e w2 ⟨v2, rfl, ho2, hb2⟩
      go_wp2_with fail
      refine (split_list _ hq65 _).mono ?_
      rintro e w3 ⟨v3, rfl, ho3, hb3⟩
      rw [E0.out.1] at ho3
      rw [E0.out.2.2.1, E0.out.2.2.2]
      have ho2' := ownsRow_below ho2 hb3
      go_wp2_with fail
      refine (texts_any _ _ hln _ _ _ _ _ ho2' ho3).mono ?_
      rintro e w4 ⟨rfl, j4, rfl⟩
      go_wp2_with fail
      refine (base_any _ hp' _).mono ?_
      rintro e w5 ⟨rfl, hb5⟩
      go_wp2_with fail
      refine (base_list _ hq65 _).mono ?_
      rintro e w6 ⟨rfl, hb6⟩
      rw [E0.out.2.1]
      go_wp2_with fail
      go_ret
      refine ⟨by simp, ?_⟩
      have s1 := hb1.size
      have s2 := hb2.size
      have s3 := hb3.size
      have s5 : w3.heap.size ≤ w5.heap.size := hb5.size
      exact hb1.trans ((hb2.mono s1).trans ((hb3.mono (by omega)).trans ((below_drewN (Below.refl _ w3) j4).trans ((hb5.mono (by show w.heap.size ≤ w3.heap.size; omega)).trans (hb6.mono (by omega))))))

theorem slashes_walk (p : ByteArray) (a : Int) (_ : p.size ≤ 9223372036854775807) (ha : (Lit.int .u8 a).wf = true) (w : World) : Calls Tryd.prog 7 #[.string p, .int .u8 a] w fun e W' => e = .returned (.bool true) ∧ Below w.heap.size w W' := by
  by_cases hp : 100 < p.size
  · have h1 : decide ((100 : Int) < (p.size : Int)) = true := by simp; omega
    clear hp
    go_enter Tryd.func7, Tryd.ntmps7
    go_wp2_with (go_at_call 9; refine (shown_any _).mono ?_; rintro e w1 ⟨rfl, hb1⟩)
    go_ret
    exact ⟨rfl, hb1⟩
  · have hb : 0 ≤ a ∧ a ≤ 255 := bounds_u8 ha
    exact slashes_small p a (by omega) hb.1 hb.2 w
end Go.Proofs.YtajleipangnfbaaDoor
