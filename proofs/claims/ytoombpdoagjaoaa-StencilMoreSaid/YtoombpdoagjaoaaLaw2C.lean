/-
  The walk of StencilApart.
-/
import Derived.Test.YtoombpdoagjaoaaLaw2B
import Derived.Deep.AppendLies
import Derived.OpenShut
namespace Go.Proofs.Ytoombpdoagjaoaa
open Go.RowKit Go.Shelf

theorem infoInt : (Try.prog.info? 3).map (fun i => (i.zero, i.size, i.bytes)) = some (some (.int .i64 0), 1, 8) := by kernel_rfl
def ints (l : List Int) : List Value := l.map (Value.int .i64)
/-- Whether the first k draws are the same, but for multiples of 36. -/
def sameTo (a b : List Int) (k : Nat) : Bool := (List.range k).all fun i => decide (a.getD i 0 % 36 = b.getD i 0 % 36)
theorem sameTo_succ (a b : List Int) (k : Nat) : sameTo a b (k + 1) = (sameTo a b k && decide (a.getD k 0 % 36 = b.getD k 0 % 36)) := by
  simp [sameTo, List.range_succ]
theorem sameTo_iff (a b : List Int) (k : Nat) : sameTo a b k = true ↔ ∀ i, i < k → a.getD i 0 % 36 = b.getD i 0 % 36 := by
  simp [sameTo]
theorem getD_take (a : List Int) (n i : Nat) (h : i < n) : (a.take n).getD i 0 = a.getD i 0 := by
  simp [List.getD_eq_getElem?_getD, h]

set_option maxRecDepth 100000 in
set_option maxHeartbeats 4000000 in
theorem apart_small (t : ByteArray) (va vb : Value) (a b : List Int) (hp : t.size ≤ 100) (ha : xs t.data.toList ≤ a.length) (hb : xs t.data.toList ≤ b.length) (hza : a.length ≤ 9223372036854775807) (_ : b.length ≤ 9223372036854775807)
    (w : World) (hva : RdI w.heap.size .u16 va a w) (hwa : ∀ z ∈ a, (Lit.int .u16 z).wf = true) (hvb : RdI w.heap.size .u16 vb b w) (hwb : ∀ z ∈ b, (Lit.int .u16 z).wf = true) :
    Calls Try.prog 6 #[.string t, va, vb] w fun e W' => e = .returned (.bool true) ∧ Below w.heap.size w W' := by
  have h1 : decide ((100 : Int) < (t.size : Int)) = false := by simp; omega
  have h2 : decide (a.length < xs t.data.toList) = false := by simp; omega
  have h3 : decide (b.length < xs t.data.toList) = false := by simp; omega
  have hx := xs_le t.data.toList
  rw [data_len] at hx
  obtain ⟨i0, hi, hz0, hz1, hz2⟩ := info_parts infoInt
  obtain ⟨aoa, capa, rfl, hca⟩ := id hva
  obtain ⟨aob, capb, rfl, hcb⟩ := id hvb
  have HVA := Lib.hid hva
  have HVB := Lib.hid hvb
  have HWA := Lib.hid hwa
  have HWB := Lib.hid hwb
  clear hva hvb hca hcb hwa hwb
  go_enter Try.func6, Try.ntmps6
  go_wp2_with fail
  refine (rcount_big _ (by omega) _).mono ?_
  rintro e w0 ⟨rfl, rfl⟩
  go_wp2_with fail
  refine (shown_any _).mono ?_
  rintro e w1 ⟨rfl, hb1⟩
  have s1 := hb1.size
  have hva1 := Lib.hid (HVA.out.below hb1)
  have hvb1 := Lib.hid (HVB.out.below hb1)
  go_wp2_with fail
  go_loopw [8, 9, 10, 11] (fun vx vy sm i wr => ∃ (k gx gy cx cy : Nat) (q : Bool), i = .int .i64 k ∧ k ≤ xs t.data.toList ∧ vx = .slice (some ⟨gx, 0, none⟩) k cx ∧ vy = .slice (some ⟨gy, 0, none⟩) k cy ∧ gx ≠ gy ∧ gx < wr.heap.size ∧ gy < wr.heap.size ∧
      wr.ownsRow w1.heap.size 3 1 vx k (ints (a.take k)) ∧ wr.ownsRow w1.heap.size 3 1 vy k (ints (b.take k)) ∧ sm = .bool q ∧ Hid (q = sameTo a b k) ∧ Below w1.heap.size w1 wr) (fun _ _ _ i _ => xs t.data.toList - (intOf i).toNat)
  case atStart =>
    refine ⟨0, w1.heap.size, w1.heap.size + 1, 0, 0, true, rfl, Nat.zero_le _, rfl, rfl, by omega, by simp; omega, by simp, ?_, ?_, rfl, Lib.hid rfl, ((Below.refl _ w1).alloc (Nat.le_refl _) _).alloc (by simp) _⟩
    · exact (World.ownsRow_lit w1 #[] 0 (Nat.le_refl _) (Nat.zero_le _) rfl).alloc _
    · have := World.ownsRow_lit (base := w1.heap.size) (e := 3) (size := 1) (w1.alloc (.cells #[] 3)) #[] 0 (by simp) (Nat.zero_le _) rfl
      rw [World.size_alloc] at this
      exact this
  case round =>
    obtain ⟨k, gx, gy, cx, cy, q, rfl, hk, rfl, rfl, hne, hgx, hgy, hox, hoy, rfl, hq, hB⟩ := hrel
    have hBw : Below w.heap.size w wr := hb1.trans (hB.mono s1)
    by_cases hlt : k < xs t.data.toList
    · have hka : k < a.length := by omega
      have hkb : k < b.length := by omega
      obtain ⟨_, _, e1, hca⟩ := HVA.out
      obtain ⟨_, _, e2, hcb⟩ := HVB.out
      obtain ⟨ba, offa, ea, hba, hca⟩ := hca (fun e => by rw [e] at hka; simp at hka)
      obtain ⟨bb, offb, eb, hbb, hcb⟩ := hcb (fun e => by rw [e] at hkb; simp at hkb)
      obtain rfl : aoa = some ⟨ba, offa, none⟩ := by rw [← ea]; injection e1
      obtain rfl : aob = some ⟨bb, offb, none⟩ := by rw [← eb]; injection e2
      clear ea eb e1 e2
      have hca0 := hca k hka
      have hcb0 := hcb k hkb
      clear hca hcb
      obtain ⟨za, hza'⟩ : ∃ z, z = a[k] := ⟨_, rfl⟩
      obtain ⟨zb, hzb'⟩ : ∃ z, z = b[k] := ⟨_, rfl⟩
      rw [← hza'] at hca0
      rw [← hzb'] at hcb0
      have bza : 0 ≤ za ∧ za ≤ 65535 := bounds_u16 (HWA.out za (by rw [hza']; exact List.getElem_mem _))
      have bzb : 0 ≤ zb ∧ zb ≤ 65535 := bounds_u16 (HWB.out zb (by rw [hzb']; exact List.getElem_mem _))
      obtain ⟨bza0, bza1⟩ := bza
      obtain ⟨bzb0, bzb1⟩ := bzb
      have hta : Hid (ints (a.take (k + 1)) = ints (a.take k) ++ [.int .i64 za]) := Lib.hid (by rw [List.take_succ_eq_append_getElem hka, ← hza']; simp [ints])
      have htb : Hid (ints (b.take (k + 1)) = ints (b.take k) ++ [.int .i64 zb]) := Lib.hid (by rw [List.take_succ_eq_append_getElem hkb, ← hzb']; simp [ints])
      have hga : Hid (a.getD k 0 = za) := Lib.hid (by rw [List.getD_eq_getElem?_getD, List.getElem?_eq_getElem hka, hza']; rfl)
      have hgb : Hid (b.getD k 0 = zb) := Lib.hid (by rw [List.getD_eq_getElem?_getD, List.getElem?_eq_getElem hkb, hzb']; rfl)
      clear hza' hzb'
      have hss := sameTo_succ a b k
      rw [hga.out, hgb.out, ← hq.out] at hss
      have HSS := Lib.hid hss
      clear hss
      have hc1 : wr.cell? ⟨ba, offa + k, none⟩ = some (.int .u16 za) := (hBw.cell (p := ⟨ba, offa + k, none⟩) hba).trans hca0
      have sB := hB.size
      go_wp2_with (at_builtin; refine wpList_append_lies _ rfl (.tmp 41) (.tmp 47) 29 rfl w1.heap.size 3 i0 (.int .i64 0) 1 8 Try.underlying29 hi hz0 hz1 hz2 rfl (by decide) _ k _ rfl (hox.alloc _) ⟨wr.heap.size, 0, none⟩ 1 1 [.int .i64 za] rfl rfl (one_new _ _ _) (by intro u hu; simp only [List.mem_singleton] at hu; subst hu; rfl) (by decide) (by unfold maxLen; omega) (by omega) (by simp; omega) (wr.heap.size + 1) (by simp) ?_)
      intro g2 cap2 w2 ho2 hgr2 lie2 hlt2
      have hB2 := below_appended (Nat.le_refl _) hB hox hgr2
      have hBw2 : Below w.heap.size w w2 := hb1.trans (hB2.mono s1)
      have hoy2 := (hoy.alloc (.cells #[.int .i64 za] 3)).kept hgr2 (Or.inr (by simp [Value.ownBlock]; omega))
      have hgy2 : gy < w2.heap.size := by have := hgr2.size; simp at this; omega
      have hne2 : g2 ≠ gy := by
        rcases lie2 with h | h
        · simp [Value.ownBlock] at h; omega
        · omega
      have hc2 : w2.cell? ⟨bb, offb + k, none⟩ = some (.int .u16 zb) := (hBw2.cell (p := ⟨bb, offb + k, none⟩) hbb).trans hcb0
      have sB2 := hB2.size
      clear hc1 lie2
      go_wp2_with (at_builtin; refine wpList_append_lies _ rfl (.tmp 49) (.tmp 55) 29 rfl w1.heap.size 3 i0 (.int .i64 0) 1 8 Try.underlying29 hi hz0 hz1 hz2 rfl (by decide) _ k _ rfl (hoy2.alloc _) ⟨w2.heap.size, 0, none⟩ 1 1 [.int .i64 zb] rfl rfl (one_new _ _ _) (by intro u hu; simp only [List.mem_singleton] at hu; subst hu; rfl) (by decide) (by unfold maxLen; omega) (by omega) (by simp; omega) (w2.heap.size + 1) (by simp) ?_)
      intro g3 cap3 w3 ho3 hgr3 lie3 hlt3
      have hB3 := below_appended (Nat.le_refl _) hB2 hoy2 hgr3
      have hBw3 : Below w.heap.size w w3 := hb1.trans (hB3.mono s1)
      have hox3 := (ho2.alloc (.cells #[.int .i64 zb] 3)).kept hgr3 (Or.inr (by simp [Value.ownBlock]; omega))
      have hgx3 : g2 < w3.heap.size := by have := hgr3.size; simp at this; omega
      have hne3 : g2 ≠ g3 := by
        rcases lie3 with h | h
        · simp [Value.ownBlock] at h; omega
        · omega
      have hc3 : w3.cell? ⟨ba, offa + k, none⟩ = some (.int .u16 za) := (hBw3.cell (p := ⟨ba, offa + k, none⟩) hba).trans hca0
      have hc4 : w3.cell? ⟨bb, offb + k, none⟩ = some (.int .u16 zb) := (hBw3.cell (p := ⟨bb, offb + k, none⟩) hbb).trans hcb0
      rw [← hta.out] at hox3
      rw [← htb.out] at ho3
      clear hc2 lie3 hca0 hcb0
      cases q with
      | false =>
        have hq2 : Hid (false = sameTo a b (k + 1)) := Lib.hid (by rw [HSS.out]; rfl)
        go_wp2
        go_quiet (fail)
        go_wp2
        go_roundw
        case rel => exact ⟨k + 1, g2, g3, _, _, false, by go_num, hlt, rfl, rfl, hne3, hgx3, hlt3, hox3, ho3, rfl, hq2, below_drewN hB3 _⟩
        case measure => simp [intOf]; omega
      | true =>
        by_cases hs : za % 36 = zb % 36
        · have hI : (za % 36 == zb % 36) = true := by rw [beq_iff_eq]; exact hs
          have hq2 : Hid (true = sameTo a b (k + 1)) := Lib.hid (by rw [HSS.out, decide_eq_true hs]; rfl)
          clear hs
          go_wp2
          go_quiet (fail)
          go_wp2
          go_roundw
          case rel => exact ⟨k + 1, g2, g3, _, _, true, by go_num, hlt, rfl, rfl, hne3, hgx3, hlt3, hox3, ho3, rfl, hq2, below_drewN hB3 _⟩
          case measure => simp [intOf]; omega
        · have hI : (za % 36 == zb % 36) = false := by rw [beq_eq_false_iff_ne]; exact hs
          have hq2 : Hid (false = sameTo a b (k + 1)) := Lib.hid (by rw [HSS.out, decide_eq_false hs]; rfl)
          clear hs
          go_wp2
          go_quiet (fail)
          go_wp2
          go_roundw
          case rel => exact ⟨k + 1, g2, g3, _, _, false, by go_num, hlt, rfl, rfl, hne3, hgx3, hlt3, hox3, ho3, rfl, hq2, below_drewN hB3 _⟩
          case measure => simp [intOf]; omega
    · have hkx : k = xs t.data.toList := by omega
      subst hkx
      have hge : xs t.data.toList ≤ xs t.data.toList := Nat.le_refl _
      have hla : (a.take (xs t.data.toList)).length = xs t.data.toList := by rw [List.length_take]; omega
      have hlb : (b.take (xs t.data.toList)).length = xs t.data.toList := by rw [List.length_take]; omega
      have hra : RdI wr.heap.size .i64 (.slice (some ⟨gx, 0, none⟩) (xs t.data.toList) cx) (a.take (xs t.data.toList)) wr := by
        refine RdI.own (e := 3) (base := w1.heap.size) ?_ (Nat.le_refl _)
        rw [hla]; exact hox
      have hrb : RdI wr.heap.size .i64 (.slice (some ⟨gy, 0, none⟩) (xs t.data.toList) cy) (b.take (xs t.data.toList)) wr := by
        refine RdI.own (e := 3) (base := w1.heap.size) ?_ (Nat.le_refl _)
        rw [hlb]; exact hoy
      have hfin : ((makeL t.data.toList (a.take (xs t.data.toList)) == makeL t.data.toList (b.take (xs t.data.toList))) == q) = true := by
        have e : makeL t.data.toList (a.take (xs t.data.toList)) = makeL t.data.toList (b.take (xs t.data.toList)) ↔ q = true := by
          rw [hq.out, sameTo_iff, makeL_eq]
          constructor
          · intro h i hi
            have h' := h i hi
            rwa [getD_take _ _ _ hi, getD_take _ _ _ hi] at h'
          · intro h i hi
            rw [getD_take _ _ _ hi, getD_take _ _ _ hi]; exact h i hi
        rw [beq_iff_eq, Bool.eq_iff_iff, beq_iff_eq]
        exact e
      have HF := Lib.hid hfin
      have HRA := Lib.hid hra
      have HRB := Lib.hid hrb
      clear hfin hra hrb hla hlb
      go_wp2_with fail
      refine (make_any _ _ _ _ (by omega) HRA.out (by rw [List.length_take]; omega)).mono ?_
      rintro e w2 ⟨rfl, hb2⟩
      have s2 := hb2.size
      go_wp2_with fail
      refine (make_any _ _ _ _ (by omega) ((HRB.out.below hb2).mono s2) (by rw [List.length_take]; omega)).mono ?_
      rintro e w3 ⟨rfl, hb3⟩
      go_wp2_with fail
      go_ret
      exact ⟨ret_bool HF.out, hb1.trans ((hB.trans ((hb2.trans (hb3.mono s2)).mono hB.size)).mono s1)⟩

theorem apart_walk (t : ByteArray) (va : Value) (a : List Int) (vb : Value) (b : List Int) (hT : t.size ≤ 9223372036854775807) (hza : a.length ≤ 9223372036854775807) (hzb : b.length ≤ 9223372036854775807)
    (w : World) (hva : RdI w.heap.size .u16 va a w) (hwa : ∀ z ∈ a, (Lit.int .u16 z).wf = true) (hvb : RdI w.heap.size .u16 vb b w) (hwb : ∀ z ∈ b, (Lit.int .u16 z).wf = true) :
    Calls Try.prog 6 #[.string t, va, vb] w fun e W' => e = .returned (.bool true) ∧ Below w.heap.size w W' := by
  by_cases hp : 100 < t.size
  · have h1 : decide ((100 : Int) < (t.size : Int)) = true := by simp; omega
    clear hp hva hvb hwa hwb
    go_enter Try.func6, Try.ntmps6
    go_wp2_with fail
    refine (rcount_big _ hT _).mono ?_
    rintro e w0 ⟨rfl, rfl⟩
    go_wp2_with (go_at_call 9; refine (shown_any _).mono ?_; rintro e w1 ⟨rfl, hb1⟩)
    go_ret
    exact ⟨rfl, hb1⟩
  · have h1 : decide ((100 : Int) < (t.size : Int)) = false := by simp; omega
    obtain ⟨aoa, capa, rfl, _⟩ := id hva
    obtain ⟨aob, capb, rfl, _⟩ := id hvb
    by_cases ha : a.length < xs t.data.toList
    · have h2 : decide (a.length < xs t.data.toList) = true := by simpa using ha
      clear hp hva hvb hwa hwb ha
      go_enter Try.func6, Try.ntmps6
      go_wp2_with fail
      refine (rcount_big _ hT _).mono ?_
      rintro e w0 ⟨rfl, rfl⟩
      go_wp2_with (go_at_call 9; refine (shown_any _).mono ?_; rintro e w1 ⟨rfl, hb1⟩)
      go_ret
      exact ⟨rfl, hb1⟩
    · have h2 : decide (a.length < xs t.data.toList) = false := by simpa using ha
      by_cases hb : b.length < xs t.data.toList
      · have h3 : decide (b.length < xs t.data.toList) = true := by simpa using hb
        clear hp hva hvb hwa hwb ha hb
        go_enter Try.func6, Try.ntmps6
        go_wp2_with fail
        refine (rcount_big _ hT _).mono ?_
        rintro e w0 ⟨rfl, rfl⟩
        go_wp2_with (go_at_call 9; refine (shown_any _).mono ?_; rintro e w1 ⟨rfl, hb1⟩)
        go_ret
        exact ⟨rfl, hb1⟩
      · exact apart_small t _ _ a b (by omega) (by omega) (by omega) hza hzb w hva hwa hvb hwb
end Go.Proofs.Ytoombpdoagjaoaa
