/-
  What is shown in each statement on options; long; the walks of OptionParses, OptionValues.
-/
import Derived.Test.YtjgadmodhkdllaaDoorOptH
namespace Go.Proofs.YtjgadmodhkdllaaDoor
open Go.RowKit Go.Shelf

/-- A call of Parse whose outcome is known. -/
def ParseOk (fl : List FlagL) (rs : List Str) (e : Ending) (W W' : World) : Prop := ∃ vf vo, e = .returned (.tuple #[vf, vo, .int .i64 0]) ∧ Rd W'.heap.size 2 vf fl.length (flags fl) W' ∧ Rd W'.heap.size 1 vo rs.length (strs rs) W' ∧ Below W.heap.size W W'
theorem parse_ok (B : Nat) (a0 a1 : Addr) (m : Int) (spec : Str) (v : Value) (argv : List Str) (w : World) (hg : Gl B a0 a1 m w) (hB : B ≤ w.heap.size) (hv : Rd w.heap.size 1 v argv.length (strs argv) w) (hr0 : argv.length ≤ 100) (hs : spec.length ≤ 65000) (ha : ∀ a ∈ argv, a.length ≤ 65000)
    (fl : List FlagL) (rs : List Str) (hR : parseL spec argv = .ok (fl, rs)) :
    Calls Tryd.prog 11 #[.string (bs spec), v] w fun e w' => ParseOk fl rs e w w' :=
  (parse_any B a0 a1 m spec v argv w hg hB hv hr0 hs ha).mono fun e w' h => by
    rcases h with ⟨k, h, _⟩ | ⟨fl', rs', vf, vo, h, h1, h2, h3, h4⟩
    · rw [hR] at h; cases h
    · rw [hR] at h; injection h with h; injection h with e1 e2; subst e1 e2; exact ⟨vf, vo, h1, h2, h3, h4.1⟩
def ParseOkN (fl : List FlagL) (rs : List Str) (e : Ending) (W W' : World) : Prop := ∃ vf vo, e = .returned (.tuple #[vf, vo, .int .i64 0]) ∧ Rd W'.heap.size 2 vf fl.length (flags fl) W' ∧ Rd W'.heap.size 1 vo rs.length (strs rs) W' ∧ Below W.heap.size W W' ∧ NewV W.heap.size vf ∧ NewV W.heap.size vo
theorem parse_okN (B : Nat) (a0 a1 : Addr) (m : Int) (spec : Str) (v : Value) (argv : List Str) (w : World) (hg : Gl B a0 a1 m w) (hB : B ≤ w.heap.size) (hv : Rd w.heap.size 1 v argv.length (strs argv) w) (hr0 : argv.length ≤ 100) (hs : spec.length ≤ 65000) (ha : ∀ a ∈ argv, a.length ≤ 65000)
    (fl : List FlagL) (rs : List Str) (hR : parseL spec argv = .ok (fl, rs)) :
    Calls Tryd.prog 11 #[.string (bs spec), v] w fun e w' => ParseOkN fl rs e w w' :=
  (parse_any B a0 a1 m spec v argv w hg hB hv hr0 hs ha).mono fun e w' h => by
    rcases h with ⟨k, h, _⟩ | ⟨fl', rs', vf, vo, h, h1, h2, h3, h4⟩
    · rw [hR] at h; cases h
    · rw [hR] at h; injection h with h; injection h with e1 e2; subst e1 e2; exact ⟨vf, vo, h1, h2, h3, h4⟩
theorem parse_err (B : Nat) (a0 a1 : Addr) (m : Int) (spec : Str) (v : Value) (argv : List Str) (w : World) (hg : Gl B a0 a1 m w) (hB : B ≤ w.heap.size) (hv : Rd w.heap.size 1 v argv.length (strs argv) w) (hr0 : argv.length ≤ 100) (hs : spec.length ≤ 65000) (ha : ∀ a ∈ argv, a.length ≤ 65000)
    (k : Int) (hR : parseL spec argv = .error k) :
    Calls Tryd.prog 11 #[.string (bs spec), v] w fun e w' => e = .returned (.tuple #[.slice none 0 0, .slice none 0 0, .int .i64 k]) ∧ Below w.heap.size w w' :=
  (parse_any B a0 a1 m spec v argv w hg hB hv hr0 hs ha).mono fun e w' h => by
    rcases h with ⟨k', h, h1, h2⟩ | ⟨fl', rs', vf, vo, h, h1, h2, h3, h4⟩
    · rw [hR] at h; injection h with h; subst h; exact ⟨h1, h2⟩
    · rw [hR] at h; cases h
theorem rparse_ok (spec : Str) (v : Value) (argv : List Str) (w : World) (hv : Rd w.heap.size 1 v argv.length (strs argv) w) (hr0 : argv.length ≤ 100) (hs : spec.length ≤ 65000) (ha : ∀ a ∈ argv, a.length ≤ 65000)
    (fl : List FlagL) (rs : List Str) (hR : parseL spec argv = .ok (fl, rs)) :
    Calls Tryd.prog 12 #[.string (bs spec), v] w fun e w' => ParseOk fl rs e w w' :=
  (rparse_any spec v argv w hv hr0 hs ha).mono fun e w' h => by
    rcases h with ⟨k, h, _⟩ | ⟨fl', rs', vf, vo, h, h1, h2, h3, h4⟩
    · rw [hR] at h; cases h
    · rw [hR] at h; injection h with h; injection h with e1 e2; subst e1 e2; exact ⟨vf, vo, h1, h2, h3, h4.1⟩
theorem rparse_err (spec : Str) (v : Value) (argv : List Str) (w : World) (hv : Rd w.heap.size 1 v argv.length (strs argv) w) (hr0 : argv.length ≤ 100) (hs : spec.length ≤ 65000) (ha : ∀ a ∈ argv, a.length ≤ 65000)
    (k : Int) (hR : parseL spec argv = .error k) :
    Calls Tryd.prog 12 #[.string (bs spec), v] w fun e w' => e = .returned (.tuple #[.slice none 0 0, .slice none 0 0, .int .i64 k]) ∧ Below w.heap.size w w' :=
  (rparse_any spec v argv w hv hr0 hs ha).mono fun e w' h => by
    rcases h with ⟨k', h, h1, h2⟩ | ⟨fl', rs', vf, vo, h, h1, h2, h3, h4⟩
    · rw [hR] at h; injection h with h; subst h; exact ⟨h1, h2⟩
    · rw [hR] at h; cases h
/-- A new slice of texts. -/
theorem Rd_new (W : World) (l : List Str) (t : TypeId) (vs : Array Value) (hv : vs = (strs l).toArray) (hl : l.length ≤ 65000) : Rd (W.alloc (.cells vs t)).heap.size 1 (.slice (some ⟨W.heap.size, 0, none⟩) l.length l.length) l.length (strs l) (W.alloc (.cells vs t)) := by
  subst hv
  refine ⟨_, _, rfl, Nat.le_refl _, by unfold maxLen; omega, fun e => (by cases e), by rw [strs_len]; omega, fun _ => ⟨W.heap.size, 0, rfl, by simp, fun j u hu => ?_⟩⟩
  rw [Lib.cell_of_heap (heap_alloc_new W _), Nat.zero_add]
  simpa using hu
theorem ret_tr {w w1 w2 : World} (h1 : Below w.heap.size w w1) (h2 : Below w1.heap.size w1 w2) : Below w.heap.size w w2 := h1.trans (h2.mono h1.size)
theorem below_al (w : World) (o : Obj) : Below w.heap.size w (w.alloc o) := (Below.refl _ w).alloc (Nat.le_refl _) o

abbrev pmS : ByteArray := ⟨#[112, 109, 58]⟩
abbrev pmSpec : Str := [112, 109, 58]
theorem ex1 : parseL pmSpec [[45, 112, 109, 55], [97], [45, 112]] = .ok ([(112, []), (109, [55])], [[97], [45, 112]]) := rfl
theorem ex2 : parseL pmSpec [[45, 120]] = .error 30 := rfl
theorem ex3 : parseL pmSpec [[45, 109]] = .error 31 := rfl
theorem shown1 (B : Nat) (a0 a1 : Addr) (m : Int) (v : Value) (w : World) (hg : Gl B a0 a1 m w) (hB : B ≤ w.heap.size) (hv : Rd w.heap.size 1 v 3 (strs [[45, 112, 109, 55], [97], [45, 112]]) w) :
    Calls Tryd.prog 11 #[.string pmS, v] w fun e w' => ParseOk [(112, []), (109, [55])] [[97], [45, 112]] e w w' :=
  parse_ok B a0 a1 m pmSpec v [[45, 112, 109, 55], [97], [45, 112]] w hg hB hv (by decide) (by decide) (by decide) _ _ ex1
theorem shown2 (B : Nat) (a0 a1 : Addr) (m : Int) (v : Value) (w : World) (hg : Gl B a0 a1 m w) (hB : B ≤ w.heap.size) (hv : Rd w.heap.size 1 v 1 (strs [[45, 120]]) w) :
    Calls Tryd.prog 11 #[.string pmS, v] w fun e w' => e = .returned (.tuple #[.slice none 0 0, .slice none 0 0, .int .i64 30]) ∧ Below w.heap.size w w' :=
  parse_err B a0 a1 m pmSpec v [[45, 120]] w hg hB hv (by decide) (by decide) (by decide) _ ex2
theorem shown3 (B : Nat) (a0 a1 : Addr) (m : Int) (v : Value) (w : World) (hg : Gl B a0 a1 m w) (hB : B ≤ w.heap.size) (hv : Rd w.heap.size 1 v 1 (strs [[45, 109]]) w) :
    Calls Tryd.prog 11 #[.string pmS, v] w fun e w' => e = .returned (.tuple #[.slice none 0 0, .slice none 0 0, .int .i64 31]) ∧ Below w.heap.size w w' :=
  parse_err B a0 a1 m pmSpec v [[45, 109]] w hg hB hv (by decide) (by decide) (by decide) _ ex3
theorem shown4 (B : Nat) (v : Value) (w : World) (hv : Rd B 2 v 2 (flags [(112, []), (109, [55])]) w) (hB : B ≤ w.heap.size) :
    Calls Tryd.prog 16 #[v, .int .u8 109] w fun e w' => e = .returned (.tuple #[.string ⟨#[55]⟩, .bool true]) ∧ Below w.heap.size w w' :=
  valueF_any B v [(112, []), (109, [55])] 109 w hv hB (by decide)
theorem shown5 (B : Nat) (v : Value) (w : World) (hv : Rd B 2 v 2 (flags [(112, []), (109, [55])]) w) (hB : B ≤ w.heap.size) :
    Calls Tryd.prog 18 #[v, .int .u8 112] w fun e w' => e = .returned (.bool true) ∧ Below w.heap.size w w' :=
  hasF_any B v [(112, []), (109, [55])] 112 w hv hB (by decide)
theorem shown6 (B : Nat) (v : Value) (w : World) (hv : Rd B 2 v 2 (flags [(112, []), (109, [55])]) w) (hB : B ≤ w.heap.size) :
    Calls Tryd.prog 18 #[v, .int .u8 120] w fun e w' => e = .returned (.bool false) ∧ Below w.heap.size w w' :=
  hasF_any B v [(112, []), (109, [55])] 120 w hv hB (by decide)

set_option maxRecDepth 100000 in
set_option maxHeartbeats 1000000 in
theorem shown_any (B : Nat) (a0 a1 : Addr) (m : Int) (w : World) (hg : Gl B a0 a1 m w) (hB : B ≤ w.heap.size) : Calls Tryd.prog 10 #[] w fun e W' => e = .returned (.bool true) ∧ Below w.heap.size w W' := by
  have hr1 : Rd _ 1 (.slice (some ⟨w.heap.size, 0, none⟩) 3 3) 3 (strs [[45, 112, 109, 55], [97], [45, 112]]) _ := Rd_new w [[45, 112, 109, 55], [97], [45, 112]] 9 #[.string ⟨#[45, 112, 109, 55]⟩, .string ⟨#[97]⟩, .string ⟨#[45, 112]⟩] rfl (by decide)
  have b0 := below_al w (.cells #[.string ⟨#[45, 112, 109, 55]⟩, .string ⟨#[97]⟩, .string ⟨#[45, 112]⟩] 9)
  have HG := Lib.hid hg
  clear hg
  go_enter Tryd.func10, Tryd.ntmps10
  go_wp2_with fail
  refine (shown1 B a0 a1 m _ _ (HG.out.below b0 hB) (Nat.le_trans hB b0.size) hr1).mono ?_
  rintro e w1 ⟨vf, vo, rfl, hf, ho, hb1⟩
  have b1 := ret_tr b0 hb1
  clear hr1 b0 hb1
  obtain ⟨bf, of, capf, rfl, _, _, hfb, _, hfc⟩ := hf.at (by decide)
  obtain ⟨bo, oo, capo, rfl, _, _, hob, _, hoc⟩ := ho.at (by decide)
  have h00 : (strs [[97], [45, 112]])[0]? = some (.string ⟨#[97]⟩) := rfl
  have hc1 := hoc 0 _ h00
  have HF := Lib.hid hf
  clear hfc hoc hf ho h00
  go_wp2_with fail
  refine (shown4 _ _ _ HF.out (Nat.le_refl _)).mono ?_
  rintro e w2 ⟨rfl, hb2⟩
  have b2 := ret_tr b1 hb2
  have hc2 := (hb2.cell (p := ⟨bo, oo + 0, none⟩) hob).trans hc1
  have s2 := hb2.size
  have HF2 := Lib.hid (HF.out.below hb2)
  clear b1 hc1 hb2
  have hr3 : Rd _ 1 (.slice (some ⟨w2.heap.size, 0, none⟩) 1 1) 1 (strs [[45, 120]]) _ := Rd_new w2 [[45, 120]] 9 #[.string ⟨#[45, 120]⟩] rfl (by decide)
  have b3 := below_al w2 (.cells #[.string ⟨#[45, 120]⟩] 9)
  go_wp2_with fail
  refine (shown2 B a0 a1 m _ _ (HG.out.below (ret_tr b2 b3) hB) (Nat.le_trans hB (ret_tr b2 b3).size) hr3).mono ?_
  rintro e w3 ⟨rfl, hb3⟩
  have b23 := ret_tr b3 hb3
  clear hr3 b3 hb3
  have b4 := ret_tr b2 b23
  have hc3 := (b23.cell (p := ⟨bo, oo + 0, none⟩) (by show bo < _; omega)).trans hc2
  have HF3 := Lib.hid (HF2.out.below (b23.mono s2))
  have s3 := b23.size
  clear hc2 b2 b23
  have hr5 : Rd _ 1 (.slice (some ⟨w3.heap.size, 0, none⟩) 1 1) 1 (strs [[45, 109]]) _ := Rd_new w3 [[45, 109]] 9 #[.string ⟨#[45, 109]⟩] rfl (by decide)
  have b5 := below_al w3 (.cells #[.string ⟨#[45, 109]⟩] 9)
  go_wp2_with fail
  refine (shown3 B a0 a1 m _ _ (HG.out.below (ret_tr b4 b5) hB) (Nat.le_trans hB (ret_tr b4 b5).size) hr5).mono ?_
  rintro e w5 ⟨rfl, hb5⟩
  have b35 := ret_tr b5 hb5
  clear hr5 b5 hb5
  have b6 := ret_tr b4 b35
  have hc5 := (b35.cell (p := ⟨bo, oo + 0, none⟩) (by show bo < _; omega)).trans hc3
  have HF5 := Lib.hid (HF3.out.below (b35.mono (by omega)))
  have s5 := b35.size
  clear hc3 b4 b35
  rw [Nat.add_zero] at hc5
  go_wp2_with fail
  refine (shown5 _ _ _ HF5.out (by omega)).mono ?_
  rintro e w6 ⟨rfl, hb6⟩
  have b7 := ret_tr b6 hb6
  have hc6 := (hb6.cell (p := ⟨bo, oo, none⟩) (by show bo < _; omega)).trans hc5
  have HF6 := Lib.hid (HF5.out.below (hb6.mono (by omega)))
  have s6 := hb6.size
  clear hc5 b6 hb6
  go_wp2_with fail
  refine (shown6 _ _ _ HF6.out (by omega)).mono ?_
  rintro e w7 ⟨rfl, hb7⟩
  have b8 := ret_tr b7 hb7
  have hc7 := (hb7.cell (p := ⟨bo, oo, none⟩) (by show bo < _; omega)).trans hc6
  clear hc6 b7 hb7
  go_wp2_with fail
  go_ret
  exact ⟨rfl, b8⟩
end Go.Proofs.YtjgadmodhkdllaaDoor
