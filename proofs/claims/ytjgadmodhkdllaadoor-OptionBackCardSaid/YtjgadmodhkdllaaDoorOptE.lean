/-
  option: Value, Has; the statements' its; the reference's Same and Texts.
-/
import Derived.Test.YtjgadmodhkdllaaDoorOptD
namespace Go.Proofs.YtjgadmodhkdllaaDoor
open Go.RowKit Go.Shelf
attribute [local go_sem ↓] Go.wp_at_zero Go.wp_at_succ

theorem infoRFlag : (Tryd.prog.info? 43).map (fun i => (i.zero, i.size, i.bytes)) = some (some (.agg #[.int .u8 0, .string ⟨#[]⟩]), 2, 24) := by kernel_rfl
/-- The value of the last flag that has the letter. -/
def valueL (l : List FlagL) (c : UInt8) : Option Str := (l.reverse.find? fun f => f.1 == c).map (·.2)
def vstr : Option Str → Str
  | some s => s
  | none => []
theorem valueL_nil (c : UInt8) : valueL [] c = none := rfl
theorem valueL_yes (l : List FlagL) (f : FlagL) (c : UInt8) (h : f.1 = c) : valueL (l ++ [f]) c = some f.2 := by simp [valueL, h]
theorem valueL_no (l : List FlagL) (f : FlagL) (c : UInt8) (h : f.1 ≠ c) : valueL (l ++ [f]) c = valueL l c := by simp [valueL, h]

theorem flags_at0 (l : List FlagL) (k : Nat) (h : k < l.length) : (flags l)[k * 2]? = some (.int .u8 (l[k]).1.toNat) := by
  induction l generalizing k with
  | nil => simp at h
  | cons f l ih =>
    cases k with
    | zero => rfl
    | succ k =>
      have := ih k (by simpa using h)
      rw [show (k + 1) * 2 = k * 2 + 2 by omega]
      simpa [flags] using this
theorem flags_at1 (l : List FlagL) (k : Nat) (h : k < l.length) : (flags l)[k * 2 + 1]? = some (.string (bs (l[k]).2)) := by
  induction l generalizing k with
  | nil => simp at h
  | cons f l ih =>
    cases k with
    | zero => rfl
    | succ k =>
      have := ih k (by simpa using h)
      rw [show (k + 1) * 2 + 1 = k * 2 + 1 + 2 by omega]
      simpa [flags] using this
theorem u8_eq_false {a b : UInt8} (h : a ≠ b) : ((a.toNat : Int) == (b.toNat : Int)) = false := by
  rw [beq_eq_false_iff_ne]
  intro e
  exact h (UInt8.toNat_inj.1 (by omega))

def ValIs (o : Option Str) (e : Ending) (W W' : World) : Prop := e = .returned (.tuple #[.string (bs (vstr o)), .bool o.isSome]) ∧ Below W.heap.size W W'
set_option maxRecDepth 100000 in
set_option maxHeartbeats 1000000 in
theorem valueF_any (B : Nat) (v : Value) (l : List FlagL) (c : UInt8) (w : World) (hv : Rd B 2 v l.length (flags l) w) (hB : B ≤ w.heap.size) (hl : l.length ≤ 10000000) :
    Calls Tryd.prog 16 #[v, .int .u8 c.toNat] w fun e w' => ValIs (valueL l c) e w w' := by
  obtain ⟨ao, cap, rfl, _, _⟩ := hv.form
  have HV := Lib.hid hv
  clear hv
  go_enter Tryd.func16, Tryd.ntmps16
  go_wp2_with fail
  go_loopw [6, 7, 12] (fun s f i wr => ∃ k : Nat, i = .int .i64 k ∧ k ≤ l.length ∧ s = .string (bs (vstr (valueL (l.take k) c))) ∧ f = .bool (valueL (l.take k) c).isSome ∧ Below w.heap.size w wr) (fun _ _ i _ => l.length - (intOf i).toNat)
  case atStart => exact ⟨0, rfl, Nat.zero_le _, rfl, rfl, Below.refl _ _⟩
  case round =>
    obtain ⟨k, rfl, hk, rfl, rfl, hBr⟩ := hrel
    by_cases hlt : k < l.length
    · obtain ⟨b, off, cap', e, hn, hm, hb, hlen, hc⟩ := HV.out.at (by omega)
      injection e with e1 _ e2
      subst e1
      subst e2
      have hc0 := (hBr.cell (p := ⟨b, off + k * 2, none⟩) (by show b < _; omega)).trans (hc _ _ (flags_at0 l k hlt))
      have hc1 : wr.cell? ⟨b, off + k * 2 + 1, none⟩ = _ := (hBr.cell (p := ⟨b, off + k * 2 + 1, none⟩) (by show b < _; omega)).trans (hc (k * 2 + 1) _ (flags_at1 l k hlt))
      have hB2 : Below w.heap.size w (wr.alloc (.cells #[.int .u8 (l[k]).1.toNat, .string (bs (l[k]).2)] 57)) := hBr.alloc hBr.size _
      have ht : l.take (k + 1) = l.take k ++ [l[k]] := List.take_succ_eq_append_getElem hlt
      by_cases hq : (l[k]).1 = c
      · have hI : (((l[k]).1.toNat : Int) == (c.toNat : Int)) = true := by rw [hq]; simp
        have HV2 : Hid (valueL (l.take (k + 1)) c = some (l[k]).2) := Lib.hid (by rw [ht]; exact valueL_yes _ _ _ hq)
        clear hc ht hq
        go_wp2_with fail
        go_roundw
        case rel => exact ⟨k + 1, by go_num, hlt, by rw [HV2.out]; rfl, by rw [HV2.out]; rfl, hB2⟩
        case measure => simp [intOf]; omega
      · have hI := u8_eq_false hq
        have HV2 : Hid (valueL (l.take (k + 1)) c = valueL (l.take k) c) := Lib.hid (by rw [ht]; exact valueL_no _ _ _ hq)
        clear hc ht hq
        go_wp2_with fail
        go_roundw
        case rel => exact ⟨k + 1, by go_num, hlt, by rw [HV2.out], by rw [HV2.out], hB2⟩
        case measure => simp [intOf]; omega
    · have hke : k = l.length := by omega
      have HT : Hid (l.take k = l) := Lib.hid (by rw [hke, List.take_length])
      have hge : l.length ≤ k := by omega
      clear hke hlt
      go_wp2_with fail
      go_ret2
      exact ⟨by rw [HT.out]; rfl, hBr⟩
theorem hasF_any (B : Nat) (v : Value) (l : List FlagL) (c : UInt8) (w : World) (hv : Rd B 2 v l.length (flags l) w) (hB : B ≤ w.heap.size) (hl : l.length ≤ 10000000) :
    Calls Tryd.prog 18 #[v, .int .u8 c.toNat] w fun e w' => e = .returned (.bool (valueL l c).isSome) ∧ Below w.heap.size w w' := by
  go_enter Tryd.func18, Tryd.ntmps18
  go_wp2_with fail
  refine (valueF_any B v l c _ hv hB hl).mono ?_
  rintro e w1 ⟨rfl, hb⟩
  go_wp2_with fail
  go_ret
  exact ⟨rfl, hb⟩

/-! ### the statements' own: its; the reference's Same, Texts -/
set_option maxRecDepth 100000 in
set_option maxHeartbeats 1000000 in
theorem its_any (B : Nat) (v : Value) (l : List FlagL) (w : World) (hv : Rd B 2 v l.length (flags l) w) (hB : B ≤ w.heap.size) (hl : l.length ≤ 10000000) :
    Calls Tryd.prog 14 #[v] w fun e w' => ∃ v', e = .returned v' ∧ Rd w'.heap.size 2 v' l.length (flags l) w' ∧ Below w.heap.size w w' := by
  obtain ⟨ao, cap, rfl, _, _⟩ := hv.form
  obtain ⟨i0, hi, hz0, hz1, hz2⟩ := info_parts infoRFlag
  have HV := Lib.hid hv
  clear hv
  go_enter Tryd.func14, Tryd.ntmps14
  go_wp2_with fail
  go_loopw [3, 4] (fun o i wr => ∃ k : Nat, i = .int .i64 k ∧ k ≤ l.length ∧ wr.ownsRow w.heap.size 43 2 o k (flags (l.take k)) ∧ Below w.heap.size w wr) (fun _ i _ => l.length - (intOf i).toNat)
  case atStart => exact ⟨0, rfl, Nat.zero_le _, World.ownsRow_lit (size := 2) w #[] 0 (Nat.le_refl _) (Nat.zero_le _) rfl, (Below.refl _ _).alloc (Nat.le_refl _) _⟩
  case round =>
    obtain ⟨k, rfl, hk, hown, hBr⟩ := hrel
    by_cases hlt : k < l.length
    · obtain ⟨b, off, cap', e, hn, hm, hb, hlen, hc⟩ := HV.out.at (by omega)
      injection e with e1 _ e2
      subst e1
      subst e2
      have hc0 := (hBr.cell (p := ⟨b, off + k * 2, none⟩) (by show b < _; omega)).trans (hc _ _ (flags_at0 l k hlt))
      have hc1 : wr.cell? ⟨b, off + k * 2 + 1, none⟩ = _ := (hBr.cell (p := ⟨b, off + k * 2 + 1, none⟩) (by show b < _; omega)).trans (hc (k * 2 + 1) _ (flags_at1 l k hlt))
      have ht : Hid (flags (l.take (k + 1)) = flags (l.take k) ++ [.int .u8 (l[k]).1.toNat, .string (bs (l[k]).2)]) := Lib.hid (by rw [List.take_succ_eq_append_getElem hlt, flags_app]; rfl)
      clear hc
      have sB := hBr.size
      go_wp2_with (at_builtin; refine wpList_append_own _ rfl (.tmp 12) (.tmp 17) 29 rfl w.heap.size 43 i0 _ 2 24 Tryd.underlying29 hi hz0 hz1 hz2 rfl (by decide) _ k _ rfl (hown.alloc _) ⟨wr.heap.size, 0, none⟩ 1 1 [.int .u8 (l[k]).1.toNat, .string (bs (l[k]).2)] rfl rfl (World.news_of_block (cs := #[.int .u8 (l[k]).1.toNat, .string (bs (l[k]).2)]) (t := 43) (fr := (0, 0)) (heap_alloc_new wr _)) (by simp [Value.oneCell']) (by unfold maxLen; omega) (by omega) (by simp; omega) ?_)
      intro v3 w3 ho3 hgr3 _
      have hB3 := below_appended (Nat.le_refl _) hBr hown hgr3
      rw [← ht.out] at ho3
      go_wp2
      go_roundw
      case rel => exact ⟨k + 1, by go_num, hlt, ho3, hB3⟩
      case measure => simp [intOf]; omega
    · have hke : k = l.length := by omega
      have HT : Hid (l.take k = l) := Lib.hid (by rw [hke, List.take_length])
      have HK := Lib.hid hke
      have hge : l.length ≤ k := by omega
      clear hke hlt
      go_wp2_with fail
      go_ret
      refine ⟨_, rfl, ?_, hBr⟩
      have := Rd.own hown (Nat.le_refl _)
      rw [HT.out, HK.out] at this
      exact this
end Go.Proofs.YtjgadmodhkdllaaDoor
