/-
  The whole way.
-/
import Derived.Test.YtckbhkchnhhecaaDoorWalkD
import Derived.Deep.LoopGhost
namespace Go.Proofs.YtckbhkchnhhecaaDoor
open Go.RowKit Go.Shelf
attribute [local go_sem ↓] Go.wp_at_zero Go.wp_at_succ

/-- A slice without its first text. -/
theorem sizeStrW (w : World) : (sizeOf 9).run Tryd.prog w = .ok 1 w := by kernel_rfl
theorem far_cut {ao : Option Addr} {n cap k b : Nat} (h : (Value.slice ao n cap).ownBlock ≠ some b) (n' cap' : Nat) : (Value.slice (cutA ao k cap) n' cap').ownBlock ≠ some b := by
  intro e
  apply h
  unfold cutA at e
  split at e
  · cases ao with
    | none => cases e
    | some a => exact e
  · cases ao with
    | none => cases e
    | some a =>
      have : (a.add k).block = a.block := by cases k <;> simp [Addr.add]
      simp only [Option.map_some, Value.ownBlock, this] at e
      exact e
theorem WayM.setLeft {b : Nat} {F : WayF} {i : Int} {vl : Value} {left : List Str} {hops : Nat} {sp : SpotL} {W : World} (h : WayM b F i vl left hops sp W) (v' : Value) (left' : List Str) (hl : Rd W.heap.size 1 v' left'.length (strs left') W) (hf : v'.ownBlock ≠ some b) : WayM b F i v' left' hops sp (W.setCell ⟨b, 7, none⟩ v') :=
  ⟨(heap_set h.blk).trans (by simp), rd_grown hl (grown_set _ ⟨b, 7, none⟩ _) hf, hf⟩
/-- The whole way: the error, or the spot. -/
def ErrOf (n : Int) (v : Value) : Prop := v = faultV n ∨ ∃ p, v = lostV p n
def GoIs (b : Nat) (F : WayF) (R : ResL) (e : Ending) (w w' : World) : Prop :=
  (∃ n v, R = (zeroS, n) ∧ n ≠ 0 ∧ ErrOf n v ∧ e = .returned v ∧ w.grownBy w' (some b)) ∨ (∃ i left hops sp, R = (sp, 0) ∧ GoesOn b F i left hops sp e w w')
/-- Of a path that has no part: it is the root's. -/
theorem no_parts {path : Str} (h : checkE path = 0) (hp : parts path = []) : Lib.hasPrefix path [47] = true ∧ Lib.hasSuffix path [47] = true := by
  have hne : path ≠ [] := by rintro rfl; cases h
  have hall := spans_none (l := path) (by simpa [parts] using hp)
  constructor
  · rw [pre_eq]
    cases path with
    | nil => exact absurd rfl hne
    | cons c r =>
      have := hall 0 (Nat.le_refl _) (by simp)
      simp at this
      simp [this]
  · rw [suf_eq _ hne, beq_iff_eq]
    have h1 : 0 < path.length := List.length_pos_iff.2 hne
    have := hall (path.length - 1) (Nat.zero_le _) (by omega)
    rw [List.getElem?_eq_getElem (by omega)] at this
    rw [List.getLast_eq_getElem]
    exact Option.some.inj this
set_option maxRecDepth 100000 in
set_option maxHeartbeats 4000000 in
theorem goAll_R (R : ResL) (b : Nat) (F : WayF) (fr : Int) (vl : Value) (sp : SpotL) (path : Str) (ms : List NodeM) (w : World) (hw : WayM b F fr vl [] 0 sp w) (hv : RdM b F.nodes ms w) (hd : DskOk ms)
    (hdl : ∀ n ∈ pl ms, n.data.length ≤ 10000) (hpl : path.length ≤ 10000) (hsl : F.slash = Lib.hasSuffix path [47]) (hR : R = walkL (pl ms) F.who fr path F.follow) :
    Calls Tryd.prog 21 #[.pointer (some ⟨b, 0, none⟩), .string (bs path)] w fun e w' => GoIs b F R e w w' := by
  have hbl := hw.lt
  have HV := Lib.hid hv
  have HS := Lib.hid hsl
  have HRR := Lib.hid hR
  have HT := Lib.hid (take_any b F fr vl [] 0 sp path w hw (by simp) hpl)
  clear hw hv hsl hR
  go_enter Tryd.func21, Tryd.ntmps21
  go_wp2_with fail
  refine HT.out.mono ?_
  intro e w1 h
  rcases h with ⟨hn, rfl, hg⟩ | ⟨hc, vl1, rfl, hw1, hg⟩
  · have HR : Hid (R = (zeroS, checkE path)) := Lib.hid (by rw [HRR.out]; unfold walkL; rw [if_pos hn])
    have HN := Lib.hid hn
    generalize checkE path = n at *
    clear hn
    go_wp2_with fail
    go_ret
    exact .inl ⟨n, _, HR.out, HN.out, .inl rfl, rfl, hg⟩
  · rw [List.append_nil] at hw1
    have HC := Lib.hid hc
    obtain ⟨ao1, cp1, rfl, _, _⟩ := hw1.lft.form
    have HW1 := Lib.hid hw1
    have HG1 := Lib.hid hg
    obtain ⟨c0, c1, c2, c3, c4, c5, c6, c7, c8, c9, c10, c11, c12⟩ := cells13 hw1.blk
    have hbl1 := hw1.lt
    by_cases h0 : (parts path).length = 0
    · have hp0 : parts path = [] := List.eq_nil_of_length_eq_zero h0
      have hI : (((parts path).length : Int) == 0) = true := by rw [h0]; rfl
      obtain ⟨g1, g2⟩ := no_parts hc hp0
      have hf0 : firstAt fr path = 0 := by unfold firstAt; rw [if_pos g1]
      have hrt := (right_root hd.right).1
      have HR : Hid (R = (⟨0, [], 0, F.slash⟩, 0)) := Lib.hid (by
        rw [HRR.out]; unfold walkL
        rw [if_neg (by simp [hc]), if_pos hp0, hf0, if_neg (by simp [hrt]), HS.out, g2])
      have HD := dir_any b F (firstAt fr path) (.slice ao1 (parts path).length cp1) (parts path) 0 ⟨0, [], 0, F.slash⟩ ms w1 hw1 ((HV.out.below (grown_below_b hg (Nat.le_of_lt hbl))).mono (Nat.le_of_lt hbl1)) hd
      rw [hf0] at HD
      have HRT := Lib.hid hrt
      have HDD := Lib.hid HD
      have hlen0 : (parts path).length = 0 := h0
      clear hp0 h0 g1 g2 hrt HD hw1 hg hc
      go_wp2_with fail
      refine HDD.out.mono ?_
      rintro e w2 (⟨hne, _⟩ | ⟨h0, v, rfl, hr2, hb2⟩)
      · exact absurd HRT.out hne
      · obtain ⟨ao2, cp2, e2, _, _⟩ := Rd.form hr2
        have e2' : v = .slice ao2 (nodeL (pl ms) 0).names.length cp2 := e2
        subst e2'
        have HB2 := Lib.hid hb2
        clear h0 hr2 e2 hb2
        generalize nodeL (pl ms) 0 = n at *
        go_wp2_with fail
        refine fresh1 (P := fun W => bodyPost _ _ _ _ _ W) ?_
        intro W5 hb5 hn5 hs5
        go_ret
        have hbb := ret_tr HB2.out hb5
        exact .inr ⟨_, _, _, _, HR.out, _, rfl, HW1.out.keep hbb, grown_tr HG1.out (grown_bel hbb)⟩
    · have hI : (((parts path).length : Int) == 0) = false := by rw [beq_eq_false_iff_ne]; omega
      have hp0 : parts path ≠ [] := fun e => h0 (by rw [e]; rfl)
      have hfin : finL (pl ms) F (firstAt fr path) (parts path) 0 ⟨0, [], 0, F.slash⟩ = R := by
        unfold finL
        rw [if_neg hp0, HRR.out]
        unfold walkL
        rw [if_neg (by simp [hc]), if_neg hp0, HS.out]
      have hM : (8 - 0) * 101 + (parts path).length ≤ 2000 := by have := parts_le path; have := check_len hc; omega
      have HF := Lib.hid hfin
      have HM := Lib.hid hM
      clear hfin hp0 hc hg hw1 hM
      go_wp2_with fail
      clear c0 c1 c2 c3 c4 c5 c6 c7 c8 c9 c10 c11 c12
      go_loopg [8] ((8 - 0) * 101 + (parts path).length) (fun k _ wr => ∃ (i : Int) (vl : Value) (left : List Str) (hops : Nat) (sp : SpotL), k = (8 - hops) * 101 + left.length ∧ k ≤ 2000 ∧ hops ≤ 8 ∧ Hid (WayM b F i vl left hops sp wr) ∧ Hid (finL (pl ms) F i left hops sp = R) ∧ Hid (w.grownBy wr (some b)))
      case atStart => exact ⟨_, _, _, 0, _, rfl, HM.out, Nat.zero_le _, HW1, HF, HG1⟩
      case round =>
        obtain ⟨i, vl2, left, hops, sp2, hk, hk2, hh, hW, hFi, hG⟩ := hrel
        obtain ⟨ao, cap, e, _, _⟩ := hW.out.lft.form
        subst e
        obtain ⟨c0, c1, c2, c3, c4, c5, c6, c7, c8, c9, c10, c11, c12⟩ := cells13 hW.out.blk
        have rf := fun j => Lib.frozen_of_heap hW.out.blk j
        have hblr := hW.out.lt
        cases left with
        | nil =>
          have HFi : Hid (R = (sp2, 0)) := Lib.hid (by rw [← hFi.out]; rfl)
          clear hk hk2 hFi
          go_wp2_with fail
          go_ret
          exact .inr ⟨i, [], hops, sp2, HFi.out, _, rfl, hW.out, hG.out⟩
        | cons p rest =>
          have hr0 := hW.out.lft
          obtain ⟨bl, off, cap', e, hcn, hcm, hbb, _, hcc⟩ := hr0.at (by simp)
          injection e with e1 _ e2
          subst e1
          subst e2
          have d0 : wr.cell? ⟨bl, off, none⟩ = some (.string (bs p)) := by have := hcc 0 (.string (bs p)) rfl; simpa using this
          have hsl : ∀ w, (Instr.slice 59 (.slice (some ⟨bl, off, none⟩) (rest.length + 1) cap) (some (.int .i64 1)) none none).run Tryd.prog w = .ok (.slice (cutA (some ⟨bl, off, none⟩) 1 cap) rest.length (cap - 1)) w := fun w =>
            run_cut 59 9 (some ⟨bl, off, none⟩) (rest.length + 1) cap 1 1 w Tryd.underlying59 (sizeStrW w) rfl (by omega)
          have hrt := hr0.tail 1 (by simp)
          have hrt' : Rd wr.heap.size 1 (.slice (cutA (some ⟨bl, off, none⟩) 1 cap) rest.length (cap - 1)) rest.length (strs rest) wr := by
            have h1 : (p :: rest).length - 1 = rest.length := by simp
            have h2 : (strs (p :: rest)).drop 1 = strs rest := rfl
            rw [h1, h2] at hrt
            exact hrt
          have hfar := far_cut (k := 1) hW.out.far rest.length (cap - 1)
          have hW2 := hW.out.setLeft _ rest hrt' hfar
          have hgs : w.grownBy (wr.setCell ⟨b, 7, none⟩ (.slice (cutA (some ⟨bl, off, none⟩) 1 cap) rest.length (cap - 1))) (some b) := grown_sc hG.out _
          have hkl : (p :: rest).length = rest.length + 1 := rfl
          have hrl : rest.length ≤ 2000 := by rw [hkl] at hk; omega
          have hVs := HV.out.below (grown_below_b hgs (Nat.le_of_lt hbl))
          have hst := (step_any b F i _ rest hops sp2 p ms _ hW2 hVs hd hh hdl (by omega)).mono fun e w' h => h.from hgs
          have hRg : goW (pl ms) F.who F.follow F.slash i (p :: rest) hops = R := by rw [← hFi.out]; rfl
          rw [hRg] at hst
          have HST := Lib.hid hst
          have hpos : (0 : Int) < ((p :: rest).length : Int) := by rw [hkl]; omega
          have hl1 : (p :: rest).length - 1 = rest.length := by simp
          have HK := Lib.hid hk
          clear hst hRg hVs hW2 hgs hrt hrt' hr0 hcc hk hFi hkl
          go_wp2_with fail
          refine HST.out.mono ?_
          intro e w5 h
          rcases h with ⟨n, hR5, hn5, rfl, hg5⟩ | ⟨i5, left5, hops5, sp5, ⟨vl5, rfl, hw5, hg5⟩, hf5, hh5, hm5⟩
          · have HR5 := Lib.hid hR5
            have HN5 := Lib.hid hn5
            clear hR5 hn5
            go_wp2_with fail
            go_ret
            exact .inl ⟨n, _, HR5.out, HN5.out, .inr ⟨bs p, rfl⟩, rfl, hg5⟩
          · have HW5 := Lib.hid hw5
            have HF5 := Lib.hid hf5
            have HM5 : Hid ((8 - hops5) * 101 + left5.length < gk) := Lib.hid (by rw [HK.out]; exact hm5)
            clear hw5 hf5 hm5
            go_wp2_with fail
            go_roundg ((8 - hops5) * 101 + left5.length)
            case measure => exact HM5.out
            case rel => exact ⟨i5, vl5, left5, hops5, sp5, rfl, by have := HM5.out; omega, hh5, HW5, HF5, Lib.hid hg5⟩
/-- .. as the document says. -/
theorem goAll_any (b : Nat) (F : WayF) (fr : Int) (vl : Value) (sp : SpotL) (path : Str) (ms : List NodeM) (w : World) (hw : WayM b F fr vl [] 0 sp w) (hv : RdM b F.nodes ms w) (hd : DskOk ms)
    (hdl : ∀ n ∈ pl ms, n.data.length ≤ 10000) (hpl : path.length ≤ 10000) (hsl : F.slash = Lib.hasSuffix path [47]) :
    Calls Tryd.prog 21 #[.pointer (some ⟨b, 0, none⟩), .string (bs path)] w fun e w' => GoIs b F (walkL (pl ms) F.who fr path F.follow) e w w' :=
  goAll_R _ b F fr vl sp path ms w hw hv hd hdl hpl hsl rfl
end Go.Proofs.YtckbhkchnhhecaaDoor
