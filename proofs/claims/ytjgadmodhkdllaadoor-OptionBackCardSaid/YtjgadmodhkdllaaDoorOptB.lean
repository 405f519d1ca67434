/-
  option: letters.
-/
import Derived.Test.YtjgadmodhkdllaaDoorOptA
import Derived.Lib.QuietBelow
import Derived.Deep.RegionHeld3
import Derived.Deep.DrawnRows
import Derived.Deep.RegionLaw
namespace Go.Proofs.YtjgadmodhkdllaaDoor
open Go.RowKit Go.Shelf Go.Lib
attribute [local go_sem ↓] Go.wp_at_zero Go.wp_at_succ

theorem infoFlag : (Tryd.prog.info? 57).map (fun i => (i.zero, i.size, i.bytes)) = some (some (.agg #[.int .u8 0, .string ⟨#[]⟩]), 2, 24) := by kernel_rfl
def strLen : Value → Nat
  | .string s => s.size
  | _ => 0
theorem strLen_bs (l : Str) : strLen (.string (bs l)) = l.length := bs_size l
def LettersIs (a0 a1 : Addr) (b : Nat) (spec : Str) (R : Except Int (List FlagL × List Str)) (e : Ending) (W W' : World) : Prop :=
  (R = .error 30 ∧ e = .returned (.iface 87 (.pointer (some a0))) ∧ Below b W W') ∨
  (R = .error 31 ∧ e = .returned (.iface 87 (.pointer (some a1))) ∧ Below b W W') ∨
  ∃ fl rs vf vr, R = .ok (fl, rs) ∧ e = .returned .nilIface ∧ Tk b spec fl rs vf vr W' ∧ Below b W W'
theorem letters_bad (spec : Str) (c : UInt8) (g : Str) (fl rs) (h : kindL spec c = 0) : lettersL spec (c :: g) fl rs = .error 30 := by unfold lettersL; rw [if_pos h]
theorem letters_plain (spec : Str) (c : UInt8) (g : Str) (fl rs) (h : kindL spec c = 1) : lettersL spec (c :: g) fl rs = lettersL spec g (fl ++ [(c, [])]) rs := by
  conv => lhs; unfold lettersL
  rw [if_neg (by rw [h]; decide), if_pos h]
theorem letters_behind (spec : Str) (c : UInt8) (g : Str) (fl rs) (h : kindL spec c = 2) (hg : g ≠ []) : lettersL spec (c :: g) fl rs = .ok (fl ++ [(c, g)], rs) := by
  unfold lettersL
  rw [if_neg (by rw [h]; decide), if_neg (by rw [h]; decide), if_neg hg]
theorem letters_next (spec : Str) (c : UInt8) (fl) (r rs) (h : kindL spec c = 2) : lettersL spec [c] fl (r :: rs) = .ok (fl ++ [(c, r)], rs) := by
  unfold lettersL
  rw [if_neg (by rw [h]; decide), if_neg (by rw [h]; decide), if_pos rfl]
theorem letters_lacks (spec : Str) (c : UInt8) (fl) (h : kindL spec c = 2) : lettersL spec [c] fl [] = .error 31 := by
  unfold lettersL
  rw [if_neg (by rw [h]; decide), if_neg (by rw [h]; decide), if_pos rfl]

theorem Tk.alloc {b : Nat} {spec : Str} {fl : List FlagL} {rs : List Str} {vf vr : Value} {W : World} (h : Tk b spec fl rs vf vr W) (o : Obj) : Tk b spec fl rs vf vr (W.alloc o) :=
  h.below ((Below.refl _ W).alloc (Nat.le_refl _) o)
theorem grown_below {b : Nat} {W w1 : World} {v : Value} {base n size : Nat} {e : TypeId} {xs : List Value} (o : Obj) (hown : W.ownsRow base e size v n xs) (hb : b ≤ base) (hbW : b ≤ W.heap.size) (hgrow : (W.alloc o).drew.grownBy w1 v.ownBlock) : Below b W w1 :=
  (((Below.refl b W).alloc hbW o).drew).grown hgrow (by simp; omega) fun k hk => Nat.le_trans hb (hown.lt k hk).1
/-- One flag is put. -/
theorem Tk.put {b : Nat} {spec : Str} {fl : List FlagL} {rs : List Str} {vf vr v' : Value} {W w1 : World} (h : Tk b spec fl rs vf vr W) (f : FlagL) (o : Obj) (hgrow : (W.alloc o).drew.grownBy w1 vf.ownBlock)
    (hown1 : w1.ownsRow (b + 1) 57 2 v' (fl.length + 1) (flags fl ++ [.int .u8 f.1.toNat, .string (bs f.2)])) : Tk b spec (fl ++ [f]) rs v' vr (w1.setCell ⟨b, 1, none⟩ v') := by
  have hlt := h.lt
  have hne : some b ≠ vf.ownBlock := fun e => by have := (h.own.lt b e.symm).1; omega
  have hb := grown_below o h.own (Nat.le_succ b) (Nat.le_of_lt hlt) hgrow
  have h1 : w1.heap[b]? = some (.cells #[.string (bs spec), vf, vr] 49 (0, 0)) := by
    rw [hgrow.block b (by show b < (W.heap.push o).size; simp; omega) hne]
    exact ((Below.refl W.heap.size W).alloc (Nat.le_refl _) o).block b hlt |>.trans h.blk
  refine ⟨heap_set h1, ownsRow_set ?_ (Nat.lt_succ_self b), (h.rd.below hb).set (Nat.le_refl _)⟩
  rw [List.length_append, flags_app]
  exact hown1
def Valued (b : Nat) (spec : Str) (R : Except Int (List FlagL × List Str)) (fl : List FlagL) (vf : Value) (nf : Nat) (cs : Array Value) (c : UInt8) (s : Str) (rs : List Str) (vr : Value) (W W' : World) : Prop :=
  Tk b spec fl rs vf vr W' ∧ W'.heap[nf]? = some (.cells cs 57 (0, 0)) ∧ R = .ok (fl ++ [(c, s)], rs) ∧ Below b W W' ∧ rs.length ≤ 65000
theorem valued_of {a1 : Addr} {b nf : Nat} {spec gl : Str} {R : Except Int (List FlagL × List Str)} {fl : List FlagL} {rs : List Str} {vf vr : Value} {cs : Array Value} {c : UInt8} {e : Ending} {W W' : World} (h : ValueIs a1 b spec gl fl rs vf e W W') (hT : Tk b spec fl rs vf vr W)
    (hk : kindL spec c = 2) (hR : R = lettersL spec (c :: gl) fl rs) (hne : nf ≠ b) (hF : W.heap[nf]? = some (.cells cs 57 (0, 0))) (hrs : rs.length ≤ 65000) :
    (R = .error 31 ∧ e = .returned (.tuple #[.string (bs []), .iface 87 (.pointer (some a1))]) ∧ ∃ n, W' = W.drewN n) ∨
    ∃ s rs' vr', e = .returned (.tuple #[.string (bs s), .nilIface]) ∧ Valued b spec R fl vf nf cs c s rs' vr' W W' := by
  rcases h with ⟨h1, h2, rfl⟩ | ⟨rfl, rfl, h2, h3⟩ | ⟨rfl, r, rs', vr', rfl, h2, h3, rfl⟩
  · exact .inr ⟨gl, rs, vr, h2, hT, hF, hR.trans (letters_behind _ _ _ _ _ hk h1), Below.refl _ _, hrs⟩
  · exact .inl ⟨hR.trans (letters_lacks _ _ _ hk), h2, h3⟩
  · exact .inr ⟨r, rs', vr', h2, h3, (Below.heap_setCell W ⟨b, 2, none⟩ vr' nf hne).trans hF, hR.trans (letters_next _ _ _ _ _ hk), (Below.refl _ _).setCell (p := ⟨b, 2, none⟩) (Nat.le_refl _) _, by simp at hrs; omega⟩

theorem ownsRow_far {W : World} {base b i : Nat} {e : TypeId} {size n : Nat} {v u : Value} {xs : List Value} (h : W.ownsRow base e size v n xs) (hb : v.ownBlock ≠ some b) : (W.setCell ⟨b, i, none⟩ u).ownsRow base e size v n xs := by
  refine ⟨h.1, h.2.imp id ?_⟩
  rintro ⟨g, cap, cur, rfl, h2, h3, h4⟩
  refine ⟨g, cap, cur, rfl, h2, (Below.heap_setCell W ⟨b, i, none⟩ u g (fun e => hb ?_)).trans h3, h4⟩
  have : g = b := e
  simp [Value.ownBlock, this]
theorem Tk.far {b nf i : Nat} {spec : Str} {fl : List FlagL} {rs : List Str} {vf vr u : Value} {W : World} (h : Tk b spec fl rs vf vr W) (hb : b < nf) (hne : vf.ownBlock ≠ some nf) : Tk b spec fl rs vf vr (W.setCell ⟨nf, i, none⟩ u) :=
  ⟨(Below.heap_setCell W ⟨nf, i, none⟩ u b (by show b ≠ nf; omega)).trans h.blk, ownsRow_far h.own hne, h.rd.set (by omega)⟩

set_option maxRecDepth 100000 in
set_option maxHeartbeats 4000000 in
theorem letters_any (B : Nat) (a0 a1 : Addr) (m : Int) (b : Nat) (spec group : Str) (fl0 : List FlagL) (rs0 : List Str) (vf0 vr0 : Value) (w : World) (hg : Gl B a0 a1 m w) (hgb : B ≤ b) (ht : Tk b spec fl0 rs0 vf0 vr0 w) (_ : rs0.length ≤ 65000) (hs : spec.length ≤ 65000) (hgl : group.length ≤ 65000) (_ : fl0.length ≤ 10000000) :
    Calls Tryd.prog 25 #[.pointer (some ⟨b, 0, none⟩), .string (bs group)] w fun e w' => LettersIs a0 a1 b spec (lettersL spec group fl0 rs0) e w w' := by
  obtain ⟨R, hR⟩ : ∃ R, R = lettersL spec group fl0 rs0 := ⟨_, rfl⟩
  rw [← hR]
  obtain ⟨i0, hi, hz0, hz1, hz2⟩ := info_parts infoFlag
  have HR := Lib.hid hR
  have HG := Lib.hid hg
  have HT := Lib.hid ht
  clear hR hg ht
  go_enter Tryd.func25, Tryd.ntmps25
  go_wp2_with fail
  go_loopw [1] (fun g wr => ∃ (gl : Str) (fl : List FlagL) (rs : List Str) (vf vr : Value), g = .string (bs gl) ∧ gl.length ≤ 65000 ∧ fl.length + gl.length ≤ 10065000 ∧ rs.length ≤ 65000 ∧ Hid (Tk b spec fl rs vf vr wr) ∧ Hid (R = lettersL spec gl fl rs) ∧ Below b w wr) (fun g _ => strLen g)
  case atStart => exact ⟨group, fl0, rs0, vf0, vr0, rfl, hgl, by omega, by assumption, HT, HR, Below.refl _ _⟩
  case round =>
    obtain ⟨gl, fl, rs, vf, vr, rfl, hgl2, hfl, hrs, ht, hR, hB⟩ := hrel
    cases gl with
    | nil =>
      go_wp2_with fail
      go_ret
      exact .inr (.inr ⟨fl, rs, vf, vr, hR.out, rfl, ht.out, hB⟩)
    | cons c gl =>
      have hne : List.isEmpty (c :: gl) = false := rfl
      have hx0 : ∀ h, (bs (c :: gl))[0]'h = c := fun h => rfl
      have hx1 : (bs (c :: gl)).extract 1 (gl.length + 1) = bs gl := bs_drop (c :: gl) 1 _ rfl
      go_wp2_with fail
      have hba : Below wr.heap.size wr (wr.alloc (Obj.cells #[Value.int IntKind.u8 ↑c.toNat, Value.string { data := #[] }] 57)) := (Below.refl _ wr).alloc (Nat.le_refl _) _
      have hTW := ht.out.below hba
      have hlt := ht.out.lt
      have hB1 := hB.trans (hba.mono (by omega))
      have hgW := HG.out.below hB1 hgb
      have hbF := heap_alloc_new wr (Obj.cells #[Value.int IntKind.u8 ↑c.toNat, Value.string { data := #[] }] 57)
      generalize hnf : wr.heap.size = nf at *
      generalize wr.alloc (Obj.cells #[Value.int IntKind.u8 ↑c.toNat, Value.string { data := #[] }] 57) = W1 at *
      clear hx0 hx1 hne hba
      have cb0 := cell_regrown hTW.cells.1
      have cf0 := cell_regrown (show W1.cell? ⟨nf, 0, none⟩ = some (.int .u8 c.toNat) by rw [Lib.cell_of_heap hbF]; rfl)
      have cm := cell_regrown hgW.g2
      refine wp_region_quiet_below (by kernel_rfl) (by kernel_rfl) ?_
      repeat (go_big_quiet_step ((go_at_call 28; exact Calls.regrown_of (kindOf_any spec c m _ hs (cm _ _)))))
      refine wpQuiet_nil ?_
      clear cb0 cf0 cm
      intro _ hw'
      obtain ⟨⟨dq, osq⟩, hw''⟩ := hw'
      have hbg : Below W1.heap.size W1 _ := below_regrown W1 dq osq
      rw [← hw''] at hbg
      clear hw''
      rename_i W2
      have hT2 := hTW.below hbg
      have hnf1 : nf < W1.heap.size := (Array.getElem?_eq_some_iff.1 hbF).1
      have hbF2 := (hbg.block nf hnf1).trans hbF
      have hB2 := hB1.trans (hbg.mono (by omega))
      have hg2 := HG.out.below hB2 hgb
      have cf0 : W2.cell? ⟨nf, 0, none⟩ = some (.int .u8 c.toNat) := by rw [Lib.cell_of_heap hbF2]; rfl
      have cf1 : W2.cell? ⟨nf, 1, none⟩ = some (.string { data := #[] }) := by rw [Lib.cell_of_heap hbF2]; rfl
      have cg0 := hg2.g0
      have cb1 := hT2.cells.2.1
      have ff := hT2.cells.2.2.2 1
      have hbW2 : b < W2.heap.size := hT2.lt
      have hnW2 : nf < W2.heap.size := (Array.getElem?_eq_some_iff.1 hbF2).1
      have ne1 : vf.ownBlock ≠ some b := fun e => by have := (ht.out.own.lt b e).1; omega
      have ne2 : vf.ownBlock ≠ some nf := fun e => by have := (ht.out.own.lt nf e).2; omega
      clear hTW hgW hbF hbg hB1 hB
      rcases kind_cases spec c with hk | hk | hk
      · rw [hk]
        have hr := Lib.hid (hR.out.trans (letters_bad spec c gl fl rs hk))
        clear hk
        go_wp2_with fail
        go_ret
        exact .inl ⟨hr.out, rfl, hB2⟩
      · rw [hk]
        have hr := Lib.hid (hR.out.trans (letters_plain spec c gl fl rs hk))
        have hown := hT2.own
        have fca : ∀ o : Obj, (W2.alloc o).drew.cell? ⟨b, 1, none⟩ = some vf := fun o => ((Below.refl W2.heap.size W2).alloc (Nat.le_refl _) o).cell (p := ⟨b, 1, none⟩) hbW2 |>.trans cb1
        have ffa : ∀ o : Obj, (W2.alloc o).drew.frozen? ⟨b, 1, none⟩ = false := fun o => ((Below.refl W2.heap.size W2).alloc (Nat.le_refl _) o).frozen (p := ⟨b, 1, none⟩) hbW2 |>.trans ff
        have hT3 := Lib.hid hT2
        clear hk hT2 hbF2 hg2 cg0 hnf
        go_wp2_with fail
        go_region_law
          ((refine step_append_lies _ (by rfl) _ _ _ (by rfl) (b + 1) 57 i0 _ 2 24 Tryd.underlying25 hi hz0 hz1 hz2 rfl (by omega) vf fl.length (flags fl) (by rfl) ((hown.alloc _).drew)
              ⟨W2.heap.size, 0, none⟩ 1 1 [.int .u8 c.toNat, .string { data := #[] }] (by rfl) (by rfl) (World.news_of_block (cs := #[.int .u8 c.toNat, .string { data := #[] }]) (t := 57) (fr := (0, 0)) (heap_alloc_new W2 _)) (by simp [Value.oneCell'])
              (by omega) (by unfold maxLen; omega) (by omega) (by simp; omega) (W2.heap.size + 1) (by simp) ?_; intro gg cap w1 hown1 hgrow hat hlt; have ff1 : w1.frozen? ⟨b, 1, none⟩ = false := (hgrow.frozen_far ⟨b, 1, none⟩ (by simp; omega) (Ne.symm ne1)).trans (ffa _); have fc1 : w1.cell? ⟨b, 1, none⟩ = some vf := (hgrow.cell_far ⟨b, 1, none⟩ (by simp; omega) (Ne.symm ne1)).trans (fca _)))
        all_goals
          have hT4 := Lib.hid (hT3.out.put (c, []) _ hgrow hown1)
          have hB4 : Below b w w1 := hB2.trans (grown_below _ hown (Nat.le_succ b) (Nat.le_of_lt hbW2) hgrow)
          clear ff1 fc1 hgrow hat hown1 fca ffa
          go_wp2_with fail
          go_roundw
          case rel => exact ⟨gl, _, rs, _, vr, rfl, by simp at hgl2; omega, by simp at hfl ⊢; omega, hrs, hT4, hr, hB4.setCell (p := ⟨b, 1, none⟩) (Nat.le_refl _) _⟩
          case measure => rw [strLen_bs, strLen_bs]; simp
      · rw [hk]
        have HK := Lib.hid hk
        have HT2 := Lib.hid hT2
        have HF2 := Lib.hid hbF2
        clear hk
        go_wp2_with fail
        refine (value_any B a0 a1 m b spec gl fl rs vf vr _ hg2 hT2 hrs).mono ?_
        clear hT2 hbF2 hg2 cg0 cf0 cf1 cb1 ff
        intro e W3 hv
        rcases valued_of hv HT2.out HK.out hR.out (nf := nf) (by omega) HF2.out hrs with ⟨hr, rfl, n3, rfl⟩ | ⟨s, rs', vr', rfl, hT3, hF3, hr, hB3, hrs3⟩
        · have HR3 := Lib.hid hr
          clear hr hv
          go_wp2_with fail
          go_ret
          exact .inr (.inl ⟨HR3.out, rfl, below_drewN hB2 n3⟩)
        · have HR3 := Lib.hid hr
          clear hr hv
          have cf1 : W3.cell? ⟨nf, 1, none⟩ = some (.string { data := #[] }) := by rw [Lib.cell_of_heap hF3]; rfl
          have ff1 : W3.frozen? ⟨nf, 1, none⟩ = false := Lib.frozen_of_heap hF3 1
          go_wp2_with fail
          have hT4 := hT3.far (i := 1) (u := .string (bs s)) (nf := nf) (by omega) ne2
          have hF4 : (W3.setCell ⟨nf, 1, none⟩ (.string (bs s))).heap[nf]? = some (.cells #[.int .u8 c.toNat, .string (bs s)] 57 (0, 0)) := heap_set hF3
          have hB4 : Below b w (W3.setCell ⟨nf, 1, none⟩ (.string (bs s))) := (hB2.trans hB3).setCell (p := ⟨nf, 1, none⟩) (by show b ≤ nf; omega) _
          clear hB3 hT3 hF3 cf1 ff1 hnf
          generalize W3.setCell ⟨nf, 1, none⟩ (.string (bs s)) = W4 at *
          have hown := hT4.own
          have hbW4 : b < W4.heap.size := hT4.lt
          have cf0 : W4.cell? ⟨nf, 0, none⟩ = some (.int .u8 c.toNat) := by rw [Lib.cell_of_heap hF4]; rfl
          have cf1 : W4.cell? ⟨nf, 1, none⟩ = some (.string (bs s)) := by rw [Lib.cell_of_heap hF4]; rfl
          have cb1 := hT4.cells.2.1
          have ff := hT4.cells.2.2.2 1
          have HT4 := Lib.hid hT4
          have fca : ∀ o : Obj, (W4.alloc o).drew.cell? ⟨b, 1, none⟩ = some vf := fun o => ((Below.refl W4.heap.size W4).alloc (Nat.le_refl _) o).cell (p := ⟨b, 1, none⟩) hbW4 |>.trans cb1
          have ffa : ∀ o : Obj, (W4.alloc o).drew.frozen? ⟨b, 1, none⟩ = false := fun o => ((Below.refl W4.heap.size W4).alloc (Nat.le_refl _) o).frozen (p := ⟨b, 1, none⟩) hbW4 |>.trans ff
          clear hT4 hF4
          go_region_law
          ((refine step_append_lies _ (by rfl) _ _ _ (by rfl) (b + 1) 57 i0 _ 2 24 Tryd.underlying25 hi hz0 hz1 hz2 rfl (by omega) vf fl.length (flags fl) (by rfl) ((hown.alloc _).drew)
              ⟨W4.heap.size, 0, none⟩ 1 1 [.int .u8 c.toNat, .string (bs s)] (by rfl) (by rfl) (World.news_of_block (cs := #[.int .u8 c.toNat, .string (bs s)]) (t := 57) (fr := (0, 0)) (heap_alloc_new W4 _)) (by simp [Value.oneCell'])
              (by omega) (by unfold maxLen; omega) (by omega) (by simp; omega) (W4.heap.size + 1) (by simp) ?_; intro gg cap w1 hown1 hgrow hat hlt; have ff1 : w1.frozen? ⟨b, 1, none⟩ = false := (hgrow.frozen_far ⟨b, 1, none⟩ (by simp; omega) (Ne.symm ne1)).trans (ffa _); have fc1 : w1.cell? ⟨b, 1, none⟩ = some vf := (hgrow.cell_far ⟨b, 1, none⟩ (by simp; omega) (Ne.symm ne1)).trans (fca _)))
          all_goals
            have hT5 := Lib.hid (HT4.out.put (c, s) _ hgrow hown1)
            have hB5 : Below b w w1 := hB4.trans (grown_below _ hown (Nat.le_succ b) (Nat.le_of_lt hbW4) hgrow)
            clear ff1 fc1 hgrow hat hown1 fca ffa
            go_wp2_with fail
            go_roundw
            case rel => exact ⟨[], _, rs', _, vr', rfl, by simp, by simp at hfl ⊢; omega, hrs3, hT5, HR3, hB5.setCell (p := ⟨b, 1, none⟩) (Nat.le_refl _) _⟩
            case measure => show strLen (.string (bs [])) < strLen (.string (bs (c :: gl))); rw [strLen_bs, strLen_bs]; simp
end Go.Proofs.YtjgadmodhkdllaaDoor
