/-
  option: options.
-/
import Derived.Test.YtjgadmodhkdllaaDoorOptB
namespace Go.Proofs.YtjgadmodhkdllaaDoor
open Go.RowKit Go.Shelf Go.Lib

def restLen (b : Nat) (W : World) : Nat := match W.cell? ⟨b, 2, none⟩ with
  | some (.slice _ n _) => n
  | _ => 0
theorem restLen_tk {b : Nat} {spec : Str} {fl : List FlagL} {rs : List Str} {vf vr : Value} {W : World} (h : Tk b spec fl rs vf vr W) : restLen b W = rs.length := by
  obtain ⟨ao, cap, e, _⟩ := h.rd.form
  unfold restLen
  rw [h.cells.2.2.1, e]
set_option maxRecDepth 100000 in
set_option maxHeartbeats 4000000 in
theorem options_any (B : Nat) (a0 a1 : Addr) (m : Int) (b : Nat) (spec : Str) (rs0 : List Str) (vf0 vr0 : Value) (w : World) (hg : Gl B a0 a1 m w) (hgb : B ≤ b) (ht : Tk b spec [] rs0 vf0 vr0 w) (hr0 : rs0.length ≤ 100) (hs : spec.length ≤ 65000) (ha : ∀ a ∈ rs0, a.length ≤ 65000) :
    Calls Tryd.prog 20 #[.pointer (some ⟨b, 0, none⟩)] w fun e w' => LettersIs a0 a1 b spec (optL spec [] rs0) e w w' := by
  obtain ⟨R, hR⟩ : ∃ R, R = optL spec [] rs0 := ⟨_, rfl⟩
  rw [← hR]
  have HR := Lib.hid hR
  have HG := Lib.hid hg
  have HT := Lib.hid ht
  have HA := Lib.hid ha
  clear hR hg ht ha
  go_enter Tryd.func20, Tryd.ntmps20
  go_wp2_with fail
  go_loopw [] (fun wr => ∃ (fl : List FlagL) (rs : List Str) (vf vr : Value), fl.length + 65000 * rs.length ≤ 6500000 ∧ rs.length ≤ 100 ∧ Hid (∀ a ∈ rs, a.length ≤ 65000) ∧ Hid (Tk b spec fl rs vf vr wr) ∧ Hid (R = optL spec fl rs) ∧ Below b w wr) (fun wr => restLen b wr)
  case atStart => exact ⟨[], rs0, vf0, vr0, by simp; omega, hr0, HA, HT, HR, Below.refl _ _⟩
  case round =>
    obtain ⟨fl, rs, vf, vr, hfl, hrs, ha, ht, hR, hB⟩ := hrel
    have hlt := ht.out.lt
    cases rs with
    | nil =>
      obtain ⟨ao, cap, rfl, _, _⟩ := ht.out.rd.form
      have c2 := ht.out.cells.2.2.1
      go_wp2_with fail
      go_ret
      exact .inr (.inr ⟨fl, [], vf, _, hR.out, rfl, ht.out, hB⟩)
    | cons a rs =>
      obtain ⟨b', off, cap, rfl, hn, hm, hlt', hl, hc⟩ := ht.out.rd.at (by simp)
      have h00 : (strs (a :: rs))[0]? = some (.string (bs a)) := rfl
      have hc0 := hc 0 _ h00
      rw [Nat.add_zero] at hc0
      have c2 := ht.out.cells.2.2.1
      have cf := ht.out.cells.2.2.2 2
      have hsl := fun w => run_cut 22 9 (some ⟨b', off, none⟩) (a :: rs).length cap 1 1 w Tryd.underlying22 (sizeStr w) rfl (by simp)
      obtain ⟨ln, hln⟩ : ∃ ln, ln = (a :: rs).length := ⟨_, rfl⟩
      have hpos : 0 < ln := by rw [hln]; simp
      rw [← hln] at hsl c2 hn
      have hre : Rd b 1 (.slice (cutA (some ⟨b', off, none⟩) 1 cap) (ln - 1) (cap - 1)) rs.length (strs rs) wr := by
        have := ht.out.rd.tail 1 (by simp)
        rw [strs_drop] at this
        rw [hln]
        exact this
      have HL := Lib.hid hln
      have HRE := Lib.hid hre
      clear hc hln hre h00
      by_cases h1 : a = [45]
      · subst h1
        have HO := Lib.hid (hR.out.trans (optL_op spec fl [45] rs (by decide)))
        go_wp2_with fail
        go_ret
        exact .inr (.inr ⟨fl, _, vf, _, HO.out, rfl, ht.out, hB⟩)
      · by_cases h2 : Lib.hasPrefix a [45] = true
        · have HP := Lib.hid h2
          by_cases h3 : a = [45, 45]
          · subst h3
            have HO := Lib.hid (hR.out.trans (optL_dashes spec fl rs))
            clear h2
            go_wp2_with fail
            refine (Tryd.strings_HasPrefix _ _ _).mono ?_
            rintro e w1 ⟨rfl, rfl⟩
            rw [show (⟨#[45]⟩ : ByteArray).data.toList = [45] from rfl, bs_list, HP.out]
            go_wp2_with fail
            go_ret
            exact .inr (.inr ⟨fl, _, vf, _, HO.out, rfl, ht.out.rest HRE.out, hB.setCell (p := ⟨b, 2, none⟩) (Nat.le_refl _) _⟩)
          · have hop : operandL a = false := by simp [operandL, h1, h2]
            have HOP := Lib.hid hop
            have H3 := Lib.hid h3
            have hne1 : (a == [45]) = false := by simpa using h1
            have hne2 : (a == [45, 45]) = false := by simpa using h3
            have hsz : 1 ≤ (bs a).size := by
              rw [bs_size]
              cases a with
              | nil => cases HP.out
              | cons _ _ => simp
            have hx1 : (bs a).extract 1 a.length = bs (a.drop 1) := bs_drop a 1 _ rfl
            clear h2 h1 h3 hop
            go_wp2_with fail
            refine (Tryd.strings_HasPrefix _ _ _).mono ?_
            rintro e w1 ⟨rfl, rfl⟩
            rw [show (⟨#[45]⟩ : ByteArray).data.toList = [45] from rfl, bs_list, HP.out]
            go_wp2_with fail
            have hB2 : Below b w (w1.setCell ⟨b, 2, none⟩ (.slice (cutA (some ⟨b', off, none⟩) 1 cap) (ln - 1) (cap - 1))) := hB.setCell (p := ⟨b, 2, none⟩) (Nat.le_refl _) _
            have hal := ha.out a (by simp)
            have htl : (List.tail a).length ≤ 65000 := by rw [List.length_tail]; omega
            have hTl : List.tail a = a.drop 1 := (List.drop_one).symm
            have hHT := Lib.hid hTl
            have hrs1 : rs.length ≤ 99 := by simp at hrs; omega
            have hfl1 : fl.length + 65000 * (rs.length + 1) ≤ 6500000 := by simpa using hfl
            clear hTl hx1 hsz
            refine (letters_any B a0 a1 m b spec (List.tail a) fl rs vf _ _ (HG.out.below hB2 hgb) hgb (ht.out.rest HRE.out) (by omega) hs htl (by omega)).mono ?_
            intro e W3 hv
            rcases hv with ⟨hr, rfl, hB3⟩ | ⟨hr, rfl, hB3⟩ | ⟨fl', rs', vf', vr', hr, rfl, hT3, hB3⟩
            · have HO := Lib.hid (hR.out.trans (optL_error spec fl a rs _ HOP.out H3.out (by rw [← hHT.out]; exact hr)))
              clear hr
              go_wp2_with fail
              go_ret
              exact .inl ⟨HO.out, rfl, hB2.trans hB3⟩
            · have HO := Lib.hid (hR.out.trans (optL_error spec fl a rs _ HOP.out H3.out (by rw [← hHT.out]; exact hr)))
              clear hr
              go_wp2_with fail
              go_ret
              exact .inr (.inl ⟨HO.out, rfl, hB2.trans hB3⟩)
            · have HO := Lib.hid (hR.out.trans (optL_ok spec fl a rs _ _ HOP.out H3.out (by rw [← hHT.out]; exact hr)))
              have hfl2 := lettersL_fl _ _ _ _ _ _ hr
              have hlr := lettersL_len _ _ _ _ _ _ hr
              have hA' : Hid (∀ a ∈ rs', a.length ≤ 65000) := Lib.hid fun x hx => ha.out x (by simp [hfl2.2 x hx])
              have hf3 := hfl2.1
              have hT3' := Lib.hid hT3
              have e1 : restLen b W3 = rs'.length := restLen_tk hT3
              have e2 := restLen_tk ht.out
              have E1 := Lib.hid e1
              have E2 := Lib.hid e2
              clear hr hfl2 e1 e2 hT3
              go_wp2_with fail
              go_roundw
              case rel => exact ⟨fl', rs', vf', vr', by omega, by omega, hA', hT3', HO, hB2.trans hB3⟩
              case measure => rw [E1.out, E2.out]; simp; omega
        · have h2' : Lib.hasPrefix a [45] = false := by simpa using h2
          have HP := Lib.hid h2'
          have HO := Lib.hid (hR.out.trans (optL_op spec fl a rs (by simp [operandL, h2'])))
          have hne1 : (a == [45]) = false := by simpa using h1
          clear h2 h2' h1
          go_wp2_with fail
          refine (Tryd.strings_HasPrefix _ _ _).mono ?_
          rintro e w1 ⟨rfl, rfl⟩
          rw [show (⟨#[45]⟩ : ByteArray).data.toList = [45] from rfl, bs_list, HP.out]
          go_wp2_with fail
          go_ret
          exact .inr (.inr ⟨fl, _, vf, _, HO.out, rfl, ht.out, hB⟩)

end Go.Proofs.YtjgadmodhkdllaaDoor
