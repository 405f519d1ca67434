/-
  The walk of OptionNone.
-/
import Derived.Test.YtjgadmodhkdllaaDoorLaw3B
import Derived.Test.YtjgadmodhkdllaaDoorOptPlain2
namespace Go.Proofs.YtjgadmodhkdllaaDoor
open Go.RowKit Go.Shelf

/-- An append to a new slice. -/
theorem below_new {W w1 : World} {o : Obj} {v : Value} (hv : v.ownBlock = some W.heap.size) (h : (W.alloc o).grownBy w1 v.ownBlock) : Below W.heap.size W w1 := by
  rw [hv] at h
  exact grown_new h
theorem len_le {l : List Str} {k n : Nat} (h : ∀ a ∈ l, a.length ≤ k) (hk : k ≤ n) : ∀ a ∈ l, a.length ≤ n := fun a ha => Nat.le_trans (h a ha) hk

set_option maxRecDepth 100000 in
set_option maxHeartbeats 2000000 in
theorem none_small (s f : Str) (v : Value) (l : List Str) (w : World) (a0 a1 : Addr) (m : Int) (hg : Gl w.heap.size a0 a1 m w) (hv : Rd w.heap.size 1 v l.length (strs l) w) (hp : s.length ≤ 50) (hq : f.length ≤ 50) (hl : longB l = false) :
    Calls Tryd.prog 7 #[.string (bs s), .string (bs f), v] w fun e W' => e = .returned (.bool true) ∧ Below w.heap.size w W' := by
  have h1 := small50 (n := s.length) (by omega)
  have h2 := small50 (n := f.length) (by omega)
  obtain ⟨hl5, hla⟩ := long_no hl
  obtain ⟨j0, hj, hy0, hy1, hy2⟩ := info_parts infoStr
  have HG := Lib.hid hg
  have HV := Lib.hid hv
  have HL := Lib.hid hl
  have HLA : Hid (∀ a ∈ f :: l, a.length ≤ 65000) := Lib.hid (by
    intro a ha
    rcases List.mem_cons.1 ha with rfl | h
    · omega
    · have := hla a h; omega)
  have HLB : Hid (∀ a ∈ ([45, 45] : Str) :: f :: l, a.length ≤ 65000) := Lib.hid (by
    intro a ha
    rcases List.mem_cons.1 ha with rfl | h
    · decide
    · exact HLA.out a h)
  clear hg hv hl hla
  go_enter Tryd.func7, Tryd.ntmps7
  go_wp2_with fail
  refine (long_any _ v l _ HV.out).mono ?_
  rintro e w0 ⟨rfl, rfl⟩
  rw [HL.out]
  go_wp2_with fail
  refine (shown_any _ a0 a1 m _ HG.out (Nat.le_refl _)).mono ?_
  rintro e w1 ⟨rfl, hb1⟩
  have s1 := hb1.size
  have HG1 := Lib.hid (HG.out.below hb1 (Nat.le_refl _))
  have HV1 := Lib.hid (HV.out.below hb1)
  go_wp2_with (at_builtin; refine wpList_append_rd rfl (.tmp 32) (.tmp 33) 22 rfl w1.heap.size 9 j0 _ 1 16 Tryd.underlying22 hj hy0 hy1 hy2 rfl (by decide) _ 1 _ rfl (World.ownsRow_lit (size := 1) w1 #[.string (bs f)] 1 (Nat.le_refl _) (by decide) rfl) w.heap.size _ l.length (strs l) rfl (HV1.out.below ((Below.refl _ w1).alloc s1 _)) (strs_one _) (by unfold maxLen; omega) (by omega) (by simp) ?_)
  intro vl w2 ho2 hgr2
  have hb2 : Below w1.heap.size w1 w2 := grown_new hgr2
  have b2 := ret_tr hb1 hb2
  have s2 := hb2.size
  obtain ⟨L, hL⟩ : ∃ L, L = f :: l := ⟨_, rfl⟩
  have ho2' : w2.ownsRow w1.heap.size 9 1 vl L.length (strs L) := by
    rw [hL, List.length_cons, Nat.add_comm]
    exact ho2
  have hLl : L.length ≤ 51 := by rw [hL, List.length_cons]; omega
  have hr2 := Rd.own (B := w2.heap.size) ho2' (Nat.le_refl _)
  have HLL := Lib.hid hL
  have HR2 := Lib.hid hr2
  obtain ⟨ao2, cap2, rfl, _, _⟩ := hr2.form
  clear hgr2 ho2 ho2' hL hb2 hr2
  have HG2 := Lib.hid (HG.out.below b2 (Nat.le_refl _))
  go_wp2_with (at_builtin; refine wpList_append_rd rfl (.tmp 37) (.tmp 38) 22 rfl w2.heap.size 9 j0 _ 1 16 Tryd.underlying22 hj hy0 hy1 hy2 rfl (by decide) _ 1 _ rfl (World.ownsRow_lit (size := 1) w2 #[.string ⟨#[45, 45]⟩] 1 (Nat.le_refl _) (by decide) rfl) w2.heap.size _ L.length (strs L) rfl (HR2.out.below ((Below.refl _ w2).alloc (Nat.le_refl _) _)) (strs_one _) (by unfold maxLen; omega) (by omega) (by simp) ?_)
  intro va w3 ho3 hgr3
  have hb3 : Below w2.heap.size w2 w3 := grown_new hgr3
  have b3 := ret_tr b2 hb3
  have s3 := hb3.size
  obtain ⟨M, hM⟩ : ∃ M, M = ([45, 45] : Str) :: L := ⟨_, rfl⟩
  have ho3' : w3.ownsRow w2.heap.size 9 1 va M.length (strs M) := by
    rw [hM, List.length_cons, Nat.add_comm]
    exact ho3
  have hMl : M.length ≤ 52 := by rw [hM, List.length_cons]; omega
  have HR3 := Lib.hid (Rd.own (B := w3.heap.size) ho3' (Nat.le_refl _))
  have HP1 : Hid (parseL s M = .ok ([], L)) := Lib.hid (by rw [hM, parseL_opt]; exact optL_dashes s [] L)
  have HMA : Hid (∀ a ∈ M, a.length ≤ 65000) := Lib.hid (by rw [hM, HLL.out]; exact HLB.out)
  have HG3 := Lib.hid (HG.out.below b3 (Nat.le_refl _))
  have HR23 := Lib.hid (HR2.out.below hb3)
  clear hgr3 ho3 ho3' hM hb3
  go_wp2_with fail
  refine (parse_ok _ a0 a1 m s _ M _ HG3.out b3.size HR3.out (by omega) (by omega) HMA.out _ _ HP1.out).mono ?_
  rintro e w4 ⟨vf, vo, rfl, hf4, ho4, hb4⟩
  have b4 := ret_tr b3 hb4
  have HR24 := Lib.hid (HR23.out.below (hb4.mono s3))
  have s4 := hb4.size
  have HG4 := Lib.hid (HG.out.below b4 (Nat.le_refl _))
  obtain ⟨aof, capf, rfl, _, _⟩ := hf4.form
  have HO4 := Lib.hid ho4
  clear hf4 ho4 hb4
  go_wp2_with fail
  refine (texts_any w4.heap.size _ _ L L _ HO4.out (HR24.out.mono (by omega)) (by omega) (by omega)).mono ?_
  rintro e w5 ⟨rfl, n5, rfl⟩
  have hde : decide (L = L) = true := by simp
  rw [hde]
  clear hde
  by_cases hfd : 1 < f.length ∧ f.head? = some 45
  · obtain ⟨hf1, hf2⟩ := hfd
    have hI1 : decide ((1 : Int) < (f.length : Int)) = true := by simp; omega
    have hx0 : ∀ h, (bs f)[0]'h = 45 := by
      intro h
      rw [bs_get]
      cases f with
      | nil => simp at hf1
      | cons c r => simpa using hf2
    have hsz : 0 < (bs f).size := by rw [bs_size]; omega
    clear hf2
    go_wp2_with fail
    go_ret
    exact ⟨rfl, below_drewN b4 _⟩
  · have HP2 : Hid (parseL s L = .ok ([], L)) := Lib.hid (by rw [parseL_opt, HLL.out]; exact optL_op s [] f l (op_first f hfd))
    have HLS : Hid (∀ a ∈ L, a.length ≤ 65000) := Lib.hid (by rw [HLL.out]; exact HLA.out)
    by_cases hf1 : 1 < f.length
    · have hI1 : decide ((1 : Int) < (f.length : Int)) = true := by simp; omega
      obtain ⟨c, r, hfe⟩ : ∃ c r, f = c :: r := by
        cases f with
        | nil => simp at hf1
        | cons c r => exact ⟨c, r, rfl⟩
      have hc : c ≠ 45 := fun e => hfd ⟨hf1, by rw [hfe, e]; rfl⟩
      have hx0 : ∀ h, (bs f)[0]'h = c := fun h => by subst hfe; rfl
      have hsz : 0 < (bs f).size := by rw [bs_size]; omega
      have hI2 : ((c.toNat : Int) == 45) = false := u8_ne (k := 45) (by decide) hc
      clear hfd hc hfe
      go_wp2_with fail
      refine (parse_ok _ a0 a1 m s _ L _ (HG4.out.below (below_drewN (Below.refl w4.heap.size w4) n5) (by omega)) (by show w.heap.size ≤ w4.heap.size; omega) ((HR24.out.drewN n5).mono (by show w2.heap.size ≤ w4.heap.size; omega)) (by omega) (by omega) HLS.out _ _ HP2.out).mono ?_
      rintro e w6 ⟨vg, vp, rfl, hg6, hp6, hb6⟩
      obtain ⟨aog, capg, rfl, _, _⟩ := hg6.form
      have HP6 := Lib.hid hp6
      have hr6 := (HR24.out.drewN n5).below (hb6.mono (by show w2.heap.size ≤ w4.heap.size; omega))
      have HR6 := Lib.hid hr6
      have s6 := hb6.size
      have b6 := ret_tr (below_drewN b4 n5) hb6
      clear hg6 hp6 hr6 hb6
      go_wp2_with fail
      refine (texts_any w6.heap.size _ _ L L _ HP6.out (HR6.out.mono (Nat.le_trans (by show w2.heap.size ≤ w4.heap.size; omega) s6)) (by omega) (by omega)).mono ?_
      rintro e w7 ⟨rfl, n7, rfl⟩
      go_wp2_with fail
      go_ret
      exact ⟨ret_bool (by simp), below_drewN b6 _⟩
    · have hI1 : decide ((1 : Int) < (f.length : Int)) = false := by simp; omega
      clear hfd
      go_wp2_with fail
      refine (parse_ok _ a0 a1 m s _ L _ (HG4.out.below (below_drewN (Below.refl w4.heap.size w4) n5) (by omega)) (by show w.heap.size ≤ w4.heap.size; omega) ((HR24.out.drewN n5).mono (by show w2.heap.size ≤ w4.heap.size; omega)) (by omega) (by omega) HLS.out _ _ HP2.out).mono ?_
      rintro e w6 ⟨vg, vp, rfl, hg6, hp6, hb6⟩
      obtain ⟨aog, capg, rfl, _, _⟩ := hg6.form
      have HP6 := Lib.hid hp6
      have hr6 := (HR24.out.drewN n5).below (hb6.mono (by show w2.heap.size ≤ w4.heap.size; omega))
      have HR6 := Lib.hid hr6
      have s6 := hb6.size
      have b6 := ret_tr (below_drewN b4 n5) hb6
      clear hg6 hp6 hr6 hb6
      go_wp2_with fail
      refine (texts_any w6.heap.size _ _ L L _ HP6.out (HR6.out.mono (Nat.le_trans (by show w2.heap.size ≤ w4.heap.size; omega) s6)) (by omega) (by omega)).mono ?_
      rintro e w7 ⟨rfl, n7, rfl⟩
      go_wp2_with fail
      go_ret
      exact ⟨ret_bool (by simp), below_drewN b6 _⟩

set_option maxRecDepth 100000 in
set_option maxHeartbeats 2000000 in
theorem none_walk (t1 t2 : ByteArray) (v : Value) (l : List Str) (_ : t1.size ≤ 9223372036854775807) (_ : t2.size ≤ 9223372036854775807) (w : World) (a0 a1 : Addr) (m : Int) (hg : Gl w.heap.size a0 a1 m w) (hv : Rd w.heap.size 1 v l.length (strs l) w) :
    Calls Tryd.prog 7 #[.string t1, .string t2, v] w fun e W' => e = .returned (.bool true) ∧ Below w.heap.size w W' := by
  obtain ⟨s, rfl⟩ : ∃ s, t1 = bs s := ⟨_, bs_of t1⟩
  obtain ⟨f, rfl⟩ : ∃ s, t2 = bs s := ⟨_, bs_of t2⟩
  rename_i hsz hsf
  rw [bs_size] at hsz hsf
  have HG := Lib.hid hg
  have HV := Lib.hid hv
  by_cases hp : 50 < s.length
  · have h1 := big50 hp
    clear hg hv
    go_enter Tryd.func7, Tryd.ntmps7
    go_wp2_with fail
    refine (shown_any _ a0 a1 m _ HG.out (Nat.le_refl _)).mono ?_
    rintro e w1 ⟨rfl, hb1⟩
    go_wp2_with fail
    go_ret
    exact ⟨rfl, hb1⟩
  have h1 := small50 hp
  by_cases hq : 50 < f.length
  · have h2 := big50 hq
    clear hg hv
    go_enter Tryd.func7, Tryd.ntmps7
    go_wp2_with fail
    refine (shown_any _ a0 a1 m _ HG.out (Nat.le_refl _)).mono ?_
    rintro e w1 ⟨rfl, hb1⟩
    go_wp2_with fail
    go_ret
    exact ⟨rfl, hb1⟩
  have h2 := small50 hq
  by_cases hl : longB l = true
  · have HL := Lib.hid hl
    clear hg hv hl
    go_enter Tryd.func7, Tryd.ntmps7
    go_wp2_with fail
    refine (long_any _ v l _ HV.out).mono ?_
    rintro e w0 ⟨rfl, rfl⟩
    rw [HL.out]
    go_wp2_with fail
    refine (shown_any _ a0 a1 m _ HG.out (Nat.le_refl _)).mono ?_
    rintro e w1 ⟨rfl, hb1⟩
    go_wp2_with fail
    go_ret
    exact ⟨rfl, hb1⟩
  exact none_small s f v l w a0 a1 m hg hv (by omega) (by omega) (by simpa using hl)
end Go.Proofs.YtjgadmodhkdllaaDoor
