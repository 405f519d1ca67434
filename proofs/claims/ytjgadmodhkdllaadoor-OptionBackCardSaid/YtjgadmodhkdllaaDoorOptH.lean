/-
  The reference's Parse.
-/
import Derived.Test.YtjgadmodhkdllaaDoorOptF
import Derived.Test.YtjgadmodhkdllaaDoorOptG
import Derived.IntWalk
namespace Go.Proofs.YtjgadmodhkdllaaDoor
open Go.RowKit Go.Shelf
attribute [local go_sem ↓] Go.wp_at_zero Go.wp_at_succ

def contL (spec : Str) (x : Except Int (List FlagL × List Str)) : Except Int (List FlagL × List Str) := match x with
  | .error e => .error e
  | .ok (fl, rs) => optL spec fl rs
theorem optL_cont (spec) (fl) (a) (rs) (h : operandL a = false) (h2 : a ≠ [45, 45]) : optL spec fl (a :: rs) = contL spec (lettersL spec (a.drop 1) fl rs) := by
  cases hl : lettersL spec (a.drop 1) fl rs with
  | error e => rw [optL_error spec fl a rs e h h2 hl]; rfl
  | ok p => obtain ⟨fl', rs'⟩ := p; rw [optL_ok spec fl a rs fl' rs' h h2 hl]; rfl
theorem kindB_no (s : Str) (c : UInt8) (h : kindL s c = 0) : (kindB s c).1 = false := by
  unfold kindL at h
  unfold kindB
  by_cases hc : c = 58
  · rw [if_pos hc]
  · rw [if_neg hc]
    by_cases hn : s.contains c = false
    · exact hn
    · rw [if_neg (by simp [hc]; simpa using hn)] at h
      split at h <;> cases h
theorem kindB_yes (s : Str) (c : UInt8) (h : kindL s c ≠ 0) : (kindB s c).1 = true ∧ ((kindB s c).2 = true ↔ kindL s c = 2) := by
  unfold kindL at h ⊢
  unfold kindB
  by_cases hc : c = 58
  · rw [if_pos (.inl hc)] at h; exact absurd rfl h
  · by_cases hn : s.contains c = false
    · rw [if_pos (.inr hn)] at h; exact absurd rfl h
    · have hn' : s.contains c = true := by simpa using hn
      rw [if_neg hc, if_neg (by simp only [not_or]; exact ⟨hc, hn⟩)]
      refine ⟨hn', ?_⟩
      by_cases ht : takesL s c = true
      · simp [ht]
      · simp [ht]
theorem op_shapes (a : Str) : a = [45] ∨ a = [] ∨ (∃ c r, a = c :: r ∧ c ≠ 45) ∨ (∃ r, a = 45 :: r ∧ r ≠ [] ∧ operandL a = false) := by
  cases a with
  | nil => exact .inr (.inl rfl)
  | cons c r =>
    by_cases h : c = 45
    · subst h
      by_cases hr : r = []
      · subst hr; exact .inl rfl
      · refine .inr (.inr (.inr ⟨r, rfl, hr, ?_⟩))
        simp [operandL, Lib.hasPrefix, List.isPrefixOf, hr]
    · exact .inr (.inr (.inl ⟨c, r, rfl, h⟩))
theorem op_c (c : UInt8) (r : Str) (h : c ≠ 45) : operandL (c :: r) = true := by
  have : (45 == c) = false := by simp; exact fun e => h e.symm
  simp [operandL, Lib.hasPrefix, List.isPrefixOf, this]
/-- Where the flags lie in the reference. -/
def ROwn (W : World) (base : Nat) (v : Value) (fl : List FlagL) : Prop := W.ownsRow base 43 2 v fl.length (flags fl)

theorem rd_rest {W wr : World} {ao : Option Addr} {cap k : Nat} {argv : List Str} (h : Rd W.heap.size 1 (.slice ao argv.length cap) argv.length (strs argv) W) (hB : Below W.heap.size W wr) (hk : k ≤ argv.length) (o : Obj) :
    Rd W.heap.size 1 (.slice (cutA ao k cap) (argv.length - k) (cap - k)) (argv.length - k) (strs (argv.drop k)) (wr.alloc o) := by
  have := (h.tail k hk).below (hB.alloc hB.size o)
  rw [strs_drop] at this
  exact this
theorem grown_new {W w1 : World} {o : Obj} (h : (W.alloc o).grownBy w1 (some W.heap.size)) : Below W.heap.size W w1 :=
  ((Below.refl _ W).alloc (Nat.le_refl _) o).grown h (by simp) fun k hk => by injection hk with hk; omega
theorem rfin {R : Except Int (List FlagL × List Str)} {W wr w2 : World} {o : Obj} {vf vo : Value} {fl : List FlagL} {argv : List Str} {k : Nat} (hown : ROwn wr W.heap.size vf fl) (hB : Below W.heap.size W wr) (hgr : (wr.alloc o).grownBy w2 (some wr.heap.size))
    (ho2 : w2.ownsRow wr.heap.size 9 1 vo (argv.length - k) (strs (argv.drop k))) (hR : R = .ok (fl, argv.drop k)) : ParseIs R (.returned (.tuple #[vf, vo, .int .i64 0])) W w2 := by
  have hb := grown_new hgr
  rw [← List.length_drop] at ho2
  exact .inr ⟨fl, argv.drop k, vf, vo, hR, rfl, ((Rd.own hown (Nat.le_refl _)).below hb).mono hb.size, Rd.own ho2 (Nat.le_refl _), hB.trans (hb.mono hB.size), NewV.own hown, (NewV.own ho2).mono hB.size⟩
theorem infoStr : (Tryd.prog.info? 9).map (fun i => (i.zero, i.size, i.bytes)) = some (some (.string ⟨#[]⟩), 1, 16) := by kernel_rfl

set_option maxRecDepth 100000 in
set_option maxHeartbeats 1600000 in
theorem rparse_any (spec : Str) (v : Value) (argv : List Str) (w : World) (hv : Rd w.heap.size 1 v argv.length (strs argv) w) (hr0 : argv.length ≤ 100) (hs : spec.length ≤ 65000) (ha : ∀ a ∈ argv, a.length ≤ 65000) :
    Calls Tryd.prog 12 #[.string (bs spec), v] w fun e w' => ParseIs (parseL spec argv) e w w' := by
  obtain ⟨ao, cap, rfl, hnc, hcm⟩ := hv.form
  obtain ⟨R, hR⟩ : ∃ R, R = parseL spec argv := ⟨_, rfl⟩
  rw [← hR]
  obtain ⟨i0, hi, hz0, hz1, hz2⟩ := info_parts infoRFlag
  obtain ⟨j0, hj, hy0, hy1, hy2⟩ := info_parts infoStr
  have HR : Hid (R = optL spec [] (argv.drop 0)) := Lib.hid hR
  have HV := Lib.hid hv
  have HA := Lib.hid ha
  clear hR hv ha
  go_enter Tryd.func12, Tryd.ntmps12
  go_wp2_with fail
  go_loopw [7, 8] (fun o i wr => ∃ (k : Nat) (fl : List FlagL), i = .int .i64 k ∧ k ≤ argv.length ∧ fl.length + 65000 * (argv.length - k) ≤ 6500000 ∧ Hid (ROwn wr w.heap.size o fl) ∧ Hid (R = optL spec fl (argv.drop k)) ∧ Below w.heap.size w wr) (fun _ i _ => argv.length - (intOf i).toNat)
  case atStart => exact ⟨0, [], rfl, Nat.zero_le _, by simp; omega, Lib.hid (World.ownsRow_lit (size := 2) w #[] 0 (Nat.le_refl _) (Nat.zero_le _) rfl), HR, (Below.refl _ _).alloc (Nat.le_refl _) _⟩
  case round =>
    obtain ⟨k, fl, rfl, hk, hfl, hown, hR, hB⟩ := hrel
    by_cases hlt : k < argv.length
    · obtain ⟨b, off, cap', e, hn, hm, hb, hlen, hc⟩ := HV.out.at (by omega)
      injection e with e1 _ e2
      subst e1
      subst e2
      have hc0 := (hB.cell (p := ⟨b, off + k, none⟩) hb).trans (hc _ _ (strs_at argv k hlt))
      have hd : argv.drop k = argv[k] :: argv.drop (k + 1) := List.drop_eq_getElem_cons hlt
      have hal := HA.out argv[k] (List.getElem_mem _)
      generalize argv[k] = a at *
      have HD := Lib.hid hd
      have HCC := Lib.hid hc
      clear hc hd
      by_cases h1 : a = [45, 45]
      · subst h1
        have HF : Hid (R = .ok (fl, argv.drop (k + 1))) := Lib.hid (by rw [hR.out, HD.out]; exact optL_dashes spec fl _)
        have hsl := fun w => run_cut 22 9 (some ⟨b, off, none⟩) argv.length cap (k + 1) ((k : Int) + 1) w Tryd.underlying22 (sizeStr w) (by omega) (by omega)
        go_wp2_with (at_builtin; refine wpList_append_rd rfl (.tmp 98) (.tmp 101) 22 rfl wr.heap.size 9 j0 _ 1 16 Tryd.underlying22 hj hy0 hy1 hy2 rfl (by decide) _ 0 [] rfl (World.ownsRow_lit (size := 1) wr #[] 0 (Nat.le_refl _) (Nat.zero_le _) rfl) w.heap.size _ _ (strs (argv.drop (k + 1))) rfl (rd_rest HV.out hB (by omega) _) (strs_one _) (by unfold maxLen; omega) (by omega) (by simp) ?_)
        intro vo w2 ho2 hgr2
        go_wp2_with fail
        go_ret3
        exact rfin hown.out hB hgr2 ho2 HF.out
      · rcases op_shapes a with rfl | rfl | ⟨c, r, rfl, hcr⟩ | ⟨r, har, hrn, hop⟩
        · have HF : Hid (R = .ok (fl, argv.drop k)) := Lib.hid (by rw [hR.out, HD.out]; exact optL_op spec fl _ _ (by decide))
          have hsl := fun w => run_cut 22 9 (some ⟨b, off, none⟩) argv.length cap k (k : Int) w Tryd.underlying22 (sizeStr w) rfl (by omega)
          clear h1
          go_wp2_with (at_builtin; refine wpList_append_rd rfl (.tmp 98) (.tmp 101) 22 rfl wr.heap.size 9 j0 _ 1 16 Tryd.underlying22 hj hy0 hy1 hy2 rfl (by decide) _ 0 [] rfl (World.ownsRow_lit (size := 1) wr #[] 0 (Nat.le_refl _) (Nat.zero_le _) rfl) w.heap.size _ _ (strs (argv.drop k)) rfl (rd_rest HV.out hB (by omega) _) (strs_one _) (by unfold maxLen; omega) (by omega) (by simp) ?_)
          intro vo w2 ho2 hgr2
          go_wp2_with fail
          go_ret3
          exact rfin hown.out hB hgr2 ho2 HF.out
        · have HF : Hid (R = .ok (fl, argv.drop k)) := Lib.hid (by rw [hR.out, HD.out]; exact optL_op spec fl _ _ (by decide))
          have hsl := fun w => run_cut 22 9 (some ⟨b, off, none⟩) argv.length cap k (k : Int) w Tryd.underlying22 (sizeStr w) rfl (by omega)
          clear h1
          go_wp2_with (at_builtin; refine wpList_append_rd rfl (.tmp 98) (.tmp 101) 22 rfl wr.heap.size 9 j0 _ 1 16 Tryd.underlying22 hj hy0 hy1 hy2 rfl (by decide) _ 0 [] rfl (World.ownsRow_lit (size := 1) wr #[] 0 (Nat.le_refl _) (Nat.zero_le _) rfl) w.heap.size _ _ (strs (argv.drop k)) rfl (rd_rest HV.out hB (by omega) _) (strs_one _) (by unfold maxLen; omega) (by omega) (by simp) ?_)
          intro vo w2 ho2 hgr2
          go_wp2_with fail
          go_ret3
          exact rfin hown.out hB hgr2 ho2 HF.out
        · have HF : Hid (R = .ok (fl, argv.drop k)) := Lib.hid (by rw [hR.out, HD.out]; exact optL_op spec fl _ _ (op_c c r hcr))
          have hsl := fun w => run_cut 22 9 (some ⟨b, off, none⟩) argv.length cap k (k : Int) w Tryd.underlying22 (sizeStr w) rfl (by omega)
          have hne1 : ((c :: r) == [45]) = false := by rw [beq_eq_false_iff_ne]; intro e; injection e with e _; exact hcr e
          have hne2 : ((c :: r) == [45, 45]) = false := by simpa using h1
          have hx0 : ∀ h, (bs (c :: r))[0]'h = c := fun h => rfl
          have hne3 : ((c.toNat : Int) != 45) = true := by
            have : ((c.toNat : Int) == 45) = false := u8_ne (k := 45) (by decide) hcr
            rw [bne, this]; rfl
          generalize hax : c :: r = a at *
          have hsz : 0 < (bs a).size := by rw [bs_size, ← hax]; simp
          have hem : a.isEmpty = false := by rw [← hax]; rfl
          clear h1 hcr hax
          go_wp2_with (at_builtin; refine wpList_append_rd rfl (.tmp 98) (.tmp 101) 22 rfl wr.heap.size 9 j0 _ 1 16 Tryd.underlying22 hj hy0 hy1 hy2 rfl (by decide) _ 0 [] rfl (World.ownsRow_lit (size := 1) wr #[] 0 (Nat.le_refl _) (Nat.zero_le _) rfl) w.heap.size _ _ (strs (argv.drop k)) rfl (rd_rest HV.out hB (by omega) _) (strs_one _) (by unfold maxLen; omega) (by omega) (by simp) ?_)
          intro vo w2 ho2 hgr2
          go_wp2_with fail
          go_ret3
          exact rfin hown.out hB hgr2 ho2 HF.out
        · have hC : Hid (R = contL spec (lettersL spec (a.drop 1) fl (argv.drop (k + 1)))) := Lib.hid (by rw [hR.out, HD.out]; exact optL_cont spec fl _ _ hop h1)
          have hne1 : (a == [45]) = false := by rw [har]; simpa using hrn
          have hne2 : (a == [45, 45]) = false := by simpa using h1
          have hx0 : ∀ h, (bs a)[0]'h = 45 := fun h => by subst har; rfl
          have hsz : 1 ≤ a.length := by rw [har]; simp
          have hsz' : 0 < (bs a).size := by rw [bs_size]; exact hsz
          have hem : a.isEmpty = false := by rw [har]; rfl
          clear h1 har hop
          go_wp2_with fail
          clear hx0 hne1 hne2 hem hc0
          go_loopw [7, 8, 10] (fun o i q wq => ∃ (j kk : Nat) (gl : List FlagL), i = .int .i64 kk ∧ q = .int .i64 j ∧ k + 1 ≤ kk ∧ kk ≤ argv.length ∧ j ≤ a.length ∧ gl.length + (65000 - j) + 65000 * (argv.length - kk) ≤ 6500000 ∧ Hid (ROwn wq w.heap.size o gl) ∧ Hid (R = contL spec (lettersL spec (a.drop j) gl (argv.drop kk))) ∧ Below w.heap.size w wq) (fun _ _ q _ => a.length - (intOf q).toNat)
          case atStart => exact ⟨1, k + 1, fl, by go_num, rfl, Nat.le_refl _, hlt, hsz, by omega, hown, hC, hB⟩
          case round =>
            clear hown hC hB hfl
            obtain ⟨j, kk, gl, rfl, rfl, hk1, hk2, hj1, hgl, hown, hC, hB⟩ := hrel
            by_cases hjl : j < a.length
            · obtain ⟨c, hcj⟩ : ∃ c, ∀ h : j < a.length, a[j]'h = c := ⟨a[j], fun h => rfl⟩
              have hjs : j < (bs a).size := by rw [bs_size]; exact hjl
              have hx0 : ∀ h, (bs a)[j]'h = c := fun h => (bs_get a j h).trans (hcj _)
              have hd : a.drop j = c :: a.drop (j + 1) := by rw [← hcj hjl]; exact List.drop_eq_getElem_cons hjl
              have HD := Lib.hid hd
              have sB := hB.size
              clear hd hcj
              rcases kind_cases spec c with hk | hk | hk
              · have HF : Hid (R = .error 30) := Lib.hid (by rw [hC.out, HD.out, letters_bad _ _ _ _ _ hk]; rfl)
                have HK := Lib.hid (kindB_no spec c hk)
                clear hk
                go_wp2_with fail
                (with_reducible refine (known_any spec c _ hs).mono ?_)
                rintro e w1 ⟨rfl, rfl⟩
                rw [HK.out]
                go_wp2_with fail
                go_ret3
                exact .inl ⟨30, HF.out, rfl, hB⟩
              · have hky := kindB_yes spec c (by rw [hk]; decide)
                have hk2 : (kindB spec c).2 = false := by
                  cases h : (kindB spec c).2
                  · rfl
                  · have := hky.2.1 h; rw [hk] at this; cases this
                have HK1 := Lib.hid hky.1
                have HK2 := Lib.hid hk2
                have HC : Hid (R = contL spec (lettersL spec (a.drop (j + 1)) (gl ++ [(c, [])]) (argv.drop kk))) := Lib.hid (by rw [hC.out, HD.out, letters_plain _ _ _ _ _ hk])
                have hfa : Hid (flags (gl ++ [(c, [])]) = flags gl ++ [.int .u8 c.toNat, .string { data := #[] }]) := Lib.hid (flags_app _ _)
                have hou : wr.ownsRow w.heap.size 43 2 _ gl.length (flags gl) := hown.out
                clear hk hky hk2
                go_wp2_with fail
                (with_reducible refine (known_any spec c _ hs).mono ?_)
                rintro e w1 ⟨rfl, rfl⟩
                rw [HK1.out, HK2.out]
                go_wp2_with (at_builtin; refine wpList_append_own _ rfl (.tmp 57) (.tmp 62) 29 rfl w.heap.size 43 i0 _ 2 24 Tryd.underlying29 hi hz0 hz1 hz2 rfl (by decide) _ gl.length _ rfl (hou.alloc _) ⟨wr.heap.size, 0, none⟩ 1 1 [.int .u8 c.toNat, .string { data := #[] }] rfl rfl (World.news_of_block (cs := #[.int .u8 c.toNat, .string { data := #[] }]) (t := 43) (fr := (0, 0)) (heap_alloc_new wr _)) (by simp [Value.oneCell']) (by unfold maxLen; omega) (by omega) (by simp; omega) ?_)
                intro v3 w3 ho3 hgr3 _
                have hB3 := below_appended (Nat.le_refl _) hB hou hgr3
                have ho4 : Hid (ROwn w3 w.heap.size v3 (gl ++ [(c, [])])) := Lib.hid (by unfold ROwn; rw [hfa.out, List.length_append]; exact ho3)
                clear ho3 hgr3 hou
                go_wp2_with fail
                go_roundw
                case rel => exact ⟨j + 1, kk, _, rfl, by go_num, hk1, hk2, hjl, by simp; omega, ho4, HC, hB3⟩
                case measure => simp [intOf]; omega
              · have hky := kindB_yes spec c (by rw [hk]; decide)
                have HK1 := Lib.hid hky.1
                have HK2 := Lib.hid (hky.2.2 hk)
                have HK := Lib.hid hk
                clear hk hky
                have hou : wr.ownsRow w.heap.size 43 2 _ gl.length (flags gl) := hown.out
                by_cases hl1 : j + 1 < a.length
                · have hll : decide ((j : Int) + 1 < (a.length : Int)) = true := by simp; omega
                  have q0 : IntKind.i64.wrap ((j : Int) + 1) = (j : Int) + 1 := IntWalk.i64_in _ (by omega)
                  have q1 : (0 : Int) ≤ (j : Int) + 1 := by omega
                  have q2 : (j : Int) + 1 ≤ (a.length : Int) := by omega
                  have q3 : ((j : Int) + 1).toNat = j + 1 := by omega
                  have hx1 : (bs a).extract (j + 1) a.length = bs (a.drop (j + 1)) := bs_drop a (j + 1) _ rfl
                  have HC : Hid (R = optL spec (gl ++ [(c, a.drop (j + 1))]) (argv.drop kk)) := Lib.hid (by
                    rw [hC.out, HD.out, letters_behind _ _ _ _ _ HK.out (by intro e; have := congrArg List.length e; simp at this; omega)]; rfl)
                  have hfa : Hid (flags (gl ++ [(c, a.drop (j + 1))]) = flags gl ++ [.int .u8 c.toNat, .string (bs (a.drop (j + 1)))]) := Lib.hid (flags_app _ _)
                  go_wp2_with fail
                  (with_reducible refine (known_any spec c _ hs).mono ?_)
                  rintro e w1 ⟨rfl, rfl⟩
                  rw [HK1.out, HK2.out]
                  go_wp2_with fail
                  go_region_law
                    ((refine step_append_lies _ (by rfl) _ _ _ (by rfl) w.heap.size 43 i0 _ 2 24 Tryd.underlying29 hi hz0 hz1 hz2 rfl (by omega) _ gl.length (flags gl) (by rfl) ((hou.alloc _).drew)
                        ⟨wr.heap.size, 0, none⟩ 1 1 [.int .u8 c.toNat, .string (bs (a.drop (j + 1)))] (by rfl) (by rfl) (World.news_of_block (cs := #[.int .u8 c.toNat, .string (bs (a.drop (j + 1)))]) (t := 43) (fr := (0, 0)) (heap_alloc_new wr _)) (by simp [Value.oneCell'])
                        (by omega) (by unfold maxLen; omega) (by omega) (by simp; omega) (wr.heap.size + 1) (by simp) ?_; intro gg cap3 w3 hown3 hgrow hat hlt3))
                  all_goals
                    have hB3 : Below w.heap.size w w3 := hB.trans (grown_below _ hou (Nat.le_refl _) sB hgrow)
                    have ho4 : Hid (ROwn w3 w.heap.size (.slice (some ⟨gg, 0, none⟩) (gl.length + 1) cap3) (gl ++ [(c, a.drop (j + 1))])) := Lib.hid (by unfold ROwn; rw [hfa.out, List.length_append]; exact hown3)
                    clear hown3 hgrow hat q0 q1 q2 q3 hx1
                    go_wp2_with fail
                    go_roundw
                    case rel =>
                      have hb4 : (gl ++ [(c, a.drop (j + 1))]).length + 65000 * (argv.length - kk) ≤ 6500000 := by simp; omega
                      repeat apply Exists.intro
                      exact ⟨⟨kk, _, rfl, hk2, hb4, ho4, HC, hB3⟩, rfl⟩
                    case measure =>
                      show argv.length - (intOf (Value.int .i64 kk)).toNat < argv.length - (intOf (Value.int .i64 k)).toNat
                      simp [intOf]; omega
                · have hll : decide ((j : Int) + 1 < (a.length : Int)) = false := by simp; omega
                  have hje : a.length ≤ j + 1 := by omega
                  have hdn : a.drop (j + 1) = [] := List.drop_eq_nil_of_le hje
                  have HD2 : Hid (a.drop j = [c]) := Lib.hid (by rw [HD.out, hdn])
                  have HDN := Lib.hid hdn
                  clear hdn hl1
                  by_cases hkn : kk < argv.length
                  · have hI3 : ((kk : Int) == (argv.length : Int)) = false := by rw [beq_eq_false_iff_ne]; omega
                    obtain ⟨r, hrr⟩ : ∃ r, r = argv[kk] := ⟨_, rfl⟩
                    have hc3 := (hB.cell (p := ⟨b, off + kk, none⟩) hb).trans (HCC.out _ _ (strs_at argv kk hkn))
                    rw [← hrr] at hc3
                    have HDR : Hid (argv.drop kk = r :: argv.drop (kk + 1)) := Lib.hid (by rw [hrr]; exact List.drop_eq_getElem_cons hkn)
                    have HC : Hid (R = contL spec (lettersL spec (a.drop (j + 1)) (gl ++ [(c, r)]) (argv.drop (kk + 1)))) := Lib.hid (by
                      rw [hC.out, HD2.out, HDR.out, letters_next _ _ _ _ _ HK.out, HDN.out]; rfl)
                    have hfa : Hid (flags (gl ++ [(c, r)]) = flags gl ++ [.int .u8 c.toNat, .string (bs r)]) := Lib.hid (flags_app _ _)
                    have q0 : (0 : Int) ≤ (kk : Int) := by omega
                    have q1 : (kk : Int) < (argv.length : Int) := by omega
                    clear hrr
                    go_wp2_with fail
                    (with_reducible refine (known_any spec c _ hs).mono ?_)
                    rintro e w1 ⟨rfl, rfl⟩
                    rw [HK1.out, HK2.out]
                    go_wp2_with fail
                    go_region_law
                      ((refine step_append_lies _ (by rfl) _ _ _ (by rfl) w.heap.size 43 i0 _ 2 24 Tryd.underlying29 hi hz0 hz1 hz2 rfl (by omega) _ gl.length (flags gl) (by rfl) ((hou.alloc _).drew)
                          ⟨wr.heap.size, 0, none⟩ 1 1 [.int .u8 c.toNat, .string (bs r)] (by rfl) (by rfl) (World.news_of_block (cs := #[.int .u8 c.toNat, .string (bs r)]) (t := 43) (fr := (0, 0)) (heap_alloc_new wr _)) (by simp [Value.oneCell'])
                          (by omega) (by unfold maxLen; omega) (by omega) (by simp; omega) (wr.heap.size + 1) (by simp) ?_; intro gg cap3 w3 hown3 hgrow hat hlt3))
                    all_goals
                      have hB3 : Below w.heap.size w w3 := hB.trans (grown_below _ hou (Nat.le_refl _) sB hgrow)
                      have ho4 : Hid (ROwn w3 w.heap.size (.slice (some ⟨gg, 0, none⟩) (gl.length + 1) cap3) (gl ++ [(c, r)])) := Lib.hid (by unfold ROwn; rw [hfa.out, List.length_append]; exact hown3)
                      clear hown3 hgrow hat q0 q1
                      go_wp2_with fail
                      go_roundw
                      case rel => exact ⟨j + 1, kk + 1, _, by go_num, by go_num, by omega, hkn, hjl, by simp; omega, ho4, HC, hB3⟩
                      case measure => simp [intOf]; omega
                  · have hke : kk = argv.length := by omega
                    have hI3 : ((kk : Int) == (argv.length : Int)) = true := by rw [hke]; simp
                    have HF : Hid (R = .error 31) := Lib.hid (by
                      rw [hC.out, HD2.out, hke, List.drop_length, letters_lacks _ _ _ HK.out]; rfl)
                    clear hke hkn
                    go_wp2_with fail
                    (with_reducible refine (known_any spec c _ hs).mono ?_)
                    rintro e w1 ⟨rfl, rfl⟩
                    rw [HK1.out, HK2.out]
                    go_wp2_with fail
                    go_ret3
                    exact .inl ⟨31, HF.out, rfl, hB⟩
            · have hje : j = a.length := by omega
              have HC : Hid (R = optL spec gl (argv.drop kk)) := Lib.hid (by rw [hC.out, hje, List.drop_length]; rfl)
              have hI2 : decide (j < a.length) = false := by simp; omega
              clear hje hjl
              go_wp2_with fail
              go_roundw
              case rel => exact ⟨kk, gl, rfl, hk2, by omega, hown, HC, hB⟩
              case measure => simp [intOf]; omega
    · have hke : k = argv.length := by omega
      have HF : Hid (R = .ok (fl, argv.drop k)) := Lib.hid (by rw [hR.out, hke, List.drop_length]; exact optL_nil spec fl)
      have hsl := fun w => run_cut 22 9 ao argv.length cap k (k : Int) w Tryd.underlying22 (sizeStr w) rfl (by omega)
      have hI2 : decide (k < argv.length) = false := by simp; omega
      clear hke hlt
      go_wp2_with (at_builtin; refine wpList_append_rd rfl (.tmp 98) (.tmp 101) 22 rfl wr.heap.size 9 j0 _ 1 16 Tryd.underlying22 hj hy0 hy1 hy2 rfl (by decide) _ 0 [] rfl (World.ownsRow_lit (size := 1) wr #[] 0 (Nat.le_refl _) (Nat.zero_le _) rfl) w.heap.size _ _ (strs (argv.drop k)) rfl (rd_rest HV.out hB (by omega) _) (strs_one _) (by unfold maxLen; omega) (by omega) (by simp) ?_)
      intro vo w2 ho2 hgr2
      go_wp2_with fail
      go_ret3
      exact rfin hown.out hB hgr2 ho2 HF.out
end Go.Proofs.YtjgadmodhkdllaaDoor
