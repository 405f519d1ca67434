import Derived.Test.YtilhiafmljmljaaDoorR20
import Derived.Deep.LoopGhost
import Derived.Test.YtilhiafmljmljaaDoorR17
import Derived.Test.YtilhiafmljmljaaDoorR15
namespace Go.Proofs.YtilhiafmljmljaaDoor
open Go.RowKit Go.Shelf
attribute [local go_sem ↓] Go.wp_at_zero Go.wp_at_succ
theorem sizeStrW (w : World) : (sizeOf 9).run Tryd.prog w = .ok 1 w := by kernel_rfl
theorem far_cut {ao : Option Addr} {n cap k b : Nat} (h : (Value.slice ao n cap).ownBlock ≠ some b) (n' cap' : Nat) : (Value.slice (cutA ao k cap) n' cap').ownBlock ≠ some b := by
  intro e
  apply h
  unfold cutA at e
  split at e
  · cases ao with
    | none => cases e
    | some a => exact e
  · cases ao with
    | none => cases e
    | some a =>
      have : (a.add k).block = a.block := by cases k <;> simp [Addr.add]
      simp only [Option.map_some, Value.ownBlock, this] at e
      exact e
theorem WayM.setLeft {b : Nat} {F : WayF} {i : Int} {vl : Value} {left : List Str} {hops : Nat} {sp : SpotL} {W : World} (h : WayM b F i vl left hops sp W) (v' : Value) (left' : List Str) (hl : Rd W.heap.size 1 v' left'.length (strs left') W) (hf : v'.ownBlock ≠ some b) : WayM b F i v' left' hops sp (W.setCell ⟨b, 7, none⟩ v') :=
  ⟨(heap_set h.blk).trans (by simp), rd_grown hl (grown_set _ ⟨b, 7, none⟩ _) hf, hf⟩
def ErrOf (n : Int) (v : Value) : Prop := v = faultV n ∨ ∃ p, v = lostV p n
def GoIs (b : Nat) (F : WayF) (R : ResL) (e : Ending) (w w' : World) : Prop :=
  (∃ n v, R = (zeroS, n) ∧ n ≠ 0 ∧ ErrOf n v ∧ e = .returned v ∧ w.grownBy w' (some b)) ∨ (∃ i left hops sp, R = (sp, 0) ∧ GoesOn b F i left hops sp e w w')
theorem no_parts {path : Str} (h : checkE path = 0) (hp : parts path = []) : Lib.hasPrefix path [47] = true ∧ Lib.hasSuffix path [47] = true := by
  have hne : path ≠ [] := by rintro rfl; cases h
  have hall := spans_none (l := path) (by simpa [parts] using hp)
  constructor
  · rw [pre_eq]
    cases path with
    | nil => exact absurd rfl hne
    | cons c r =>
      have := hall 0 (Nat.le_refl _) (by simp)
      simp at this
      simp [this]
  · rw [suf_eq _ hne, beq_iff_eq]
    have h1 : 0 < path.length := List.length_pos_iff.2 hne
    have := hall (path.length - 1) (Nat.zero_le _) (by omega)
    rw [List.getElem?_eq_getElem (by omega)] at this
    rw [List.getLast_eq_getElem]
    exact Option.some.inj this
set_option maxRecDepth 100000 in
set_option maxHeartbeats 4000000 in
theorem goAll_R (R : ResL) (b : Nat) (F : WayF) (fr : Int) (vl : Value) (sp : SpotL) (path : Str) (ms : List NodeM) (w : World) (hw : WayM b F fr vl [] 0 sp w) (hv : RdM b F.nodes ms w) (hd : DskOk ms)
    (hdl : ∀ n ∈ pl ms, n.data.length ≤ 10000) (hpl : path.length ≤ 10000) (hsl : F.slash = Lib.hasSuffix path [47]) (hR : R = walkL (pl ms) F.who fr path F.follow) :
    Calls Tryd.prog 23 #[.pointer (some ⟨b, 0, none⟩), .string (bs path)] w fun e w' => GoIs b F R e w w' := by
  have hbl := hw.lt
  have HV := Lib.hid hv
  have HS := Lib.hid hsl
  have HRR := Lib.hid hR
  have HT := Lib.hid (take_any b F fr vl [] 0 sp path w hw (by simp) hpl)
  clear hw hv hsl hR
  go_enter Tryd.func23, Tryd.ntmps23
  go_wp2_with fail
  refine HT.out.mono ?_
  intro e w1 h
  rcases h with ⟨hn, rfl, hg⟩ | ⟨hc, vl1, rfl, hw1, hg⟩
  · have HR : Hid (R = (zeroS, checkE path)) := Lib.hid (by rw [HRR.out]; unfold walkL; rw [if_pos hn])
    have HN := Lib.hid hn
    generalize checkE path = n at *
    clear hn
    go_wp2_with fail
    go_ret
    exact .inl ⟨n, _, HR.out, HN.out, .inl rfl, rfl, hg⟩
  · rw [List.append_nil] at hw1
    have HC := Lib.hid hc
    obtain ⟨ao1, cp1, rfl, _, _⟩ := hw1.lft.form
    have HW1 := Lib.hid hw1
    have HG1 := Lib.hid hg
    obtain ⟨c0, c1, c2, c3, c4, c5, c6, c7, c8, c9, c10, c11, c12⟩ := cells13 hw1.blk
    have hbl1 := hw1.lt
    by_cases h0 : (parts path).length = 0
    · have hp0 : parts path = [] := List.eq_nil_of_length_eq_zero h0
      have hI : (((parts path).length : Int) == 0) = true := by rw [h0]; rfl
      obtain ⟨g1, g2⟩ := no_parts hc hp0
      have hf0 : firstAt fr path = 0 := by unfold firstAt; rw [if_pos g1]
      have hrt := (right_root hd.right).1
      have HR : Hid (R = (⟨0, [], 0, F.slash⟩, 0)) := Lib.hid (by
        rw [HRR.out]; unfold walkL
        rw [if_neg (by simp [hc]), if_pos hp0, hf0, if_neg (by simp [hrt]), HS.out, g2])
      have HD := dir_any b F (firstAt fr path) (.slice ao1 (parts path).length cp1) (parts path) 0 ⟨0, [], 0, F.slash⟩ ms w1 hw1 ((HV.out.below (grown_below_b hg (Nat.le_of_lt hbl))).mono (Nat.le_of_lt hbl1)) hd
      rw [hf0] at HD
      have HRT := Lib.hid hrt
      have HDD := Lib.hid HD
      have hlen0 : (parts path).length = 0 := h0
      clear hp0 h0 g1 g2 hrt HD hw1 hg hc
      go_wp2_with fail
      refine HDD.out.mono ?_
      rintro e w2 (⟨hne, _⟩ | ⟨h0, v, rfl, hr2, hb2⟩)
      · exact absurd HRT.out hne
      · obtain ⟨ao2, cp2, e2, _, _⟩ := Rd.form hr2
        have e2' : v = .slice ao2 (nodeL (pl ms) 0).names.length cp2 := e2
        subst e2'
        have HB2 := Lib.hid hb2
        clear h0 hr2 e2 hb2
        generalize nodeL (pl ms) 0 = n at *
        go_wp2_with fail
        refine fresh1 (P := fun W => bodyPost _ _ _ _ _ W) ?_
        intro W5 hb5 hn5 hs5
        go_ret
        have hbb := ret_tr HB2.out hb5
        exact .inr ⟨_, _, _, _, HR.out, _, rfl, HW1.out.keep hbb, grown_tr HG1.out (grown_bel hbb)⟩
    · have hI : (((parts path).length : Int) == 0) = false := by rw [beq_eq_false_iff_ne]; omega
      have hp0 : parts path ≠ [] := fun e => h0 (by rw [e]; rfl)
      have hfin : finL (pl ms) F (firstAt fr path) (parts path) 0 ⟨0, [], 0, F.slash⟩ = R := by
        unfold finL
        rw [if_neg hp0, HRR.out]
        unfold walkL
        rw [if_neg (by simp [hc]), if_neg hp0, HS.out]
      have hM : (8 - 0) * 101 + (parts path).length ≤ 2000 := by have := parts_le path; have := check_len hc; omega
      have HF := Lib.hid hfin
      have HM := Lib.hid hM
      clear hfin hp0 hc hg hw1 hM
      go_wp2_with fail
      clear c0 c1 c2 c3 c4 c5 c6 c7 c8 c9 c10 c11 c12
      go_loopg [8] ((8 - 0) * 101 + (parts path).length) (fun k _ wr => ∃ (i : Int) (vl : Value) (left : List Str) (hops : Nat) (sp : SpotL), k = (8 - hops) * 101 + left.length ∧ k ≤ 2000 ∧ hops ≤ 8 ∧ Hid (WayM b F i vl left hops sp wr) ∧ Hid (finL (pl ms) F i left hops sp = R) ∧ Hid (w.grownBy wr (some b)))
      case atStart => exact ⟨_, _, _, 0, _, rfl, HM.out, Nat.zero_le _, HW1, HF, HG1⟩
      case round =>
        obtain ⟨i, vl2, left, hops, sp2, hk, hk2, hh, hW, hFi, hG⟩ := hrel
        obtain ⟨ao, cap, e, _, _⟩ := hW.out.lft.form
        subst e
        obtain ⟨c0, c1, c2, c3, c4, c5, c6, c7, c8, c9, c10, c11, c12⟩ := cells13 hW.out.blk
        have rf := fun j => Lib.frozen_of_heap hW.out.blk j
        have hblr := hW.out.lt
        cases left with
        | nil =>
          have HFi : Hid (R = (sp2, 0)) := Lib.hid (by rw [← hFi.out]; rfl)
          clear hk hk2 hFi
          go_wp2_with fail
          go_ret
          exact .inr ⟨i, [], hops, sp2, HFi.out, _, rfl, hW.out, hG.out⟩
        | cons p rest =>
          have hr0 := hW.out.lft
          obtain ⟨bl, off, cap', e, hcn, hcm, hbb, _, hcc⟩ := hr0.at (by simp)
          injection e with e1 _ e2
          subst e1
          subst e2
          have d0 : wr.cell? ⟨bl, off, none⟩ = some (.string (bs p)) := by have := hcc 0 (.string (bs p)) rfl; simpa using this
          have hsl : ∀ w, (Instr.slice 71 (.slice (some ⟨bl, off, none⟩) (rest.length + 1) cap) (some (.int .i64 1)) none none).run Tryd.prog w = .ok (.slice (cutA (some ⟨bl, off, none⟩) 1 cap) rest.length (cap - 1)) w := fun w =>
            run_cut 71 9 (some ⟨bl, off, none⟩) (rest.length + 1) cap 1 1 w Tryd.underlying71 (sizeStrW w) rfl (by omega)
          have hrt := hr0.tail 1 (by simp)
          have hrt' : Rd wr.heap.size 1 (.slice (cutA (some ⟨bl, off, none⟩) 1 cap) rest.length (cap - 1)) rest.length (strs rest) wr := by
            have h1 : (p :: rest).length - 1 = rest.length := by simp
            have h2 : (strs (p :: rest)).drop 1 = strs rest := rfl
            rw [h1, h2] at hrt
            exact hrt
          have hfar := far_cut (k := 1) hW.out.far rest.length (cap - 1)
          have hW2 := hW.out.setLeft _ rest hrt' hfar
          have hgs : w.grownBy (wr.setCell ⟨b, 7, none⟩ (.slice (cutA (some ⟨bl, off, none⟩) 1 cap) rest.length (cap - 1))) (some b) := grown_sc hG.out _
          have hkl : (p :: rest).length = rest.length + 1 := rfl
          have hrl : rest.length ≤ 2000 := by rw [hkl] at hk; omega
          have hVs := HV.out.below (grown_below_b hgs (Nat.le_of_lt hbl))
          have hst := (step_any b F i _ rest hops sp2 p ms _ hW2 hVs hd hh hdl (by omega)).mono fun e w' h => h.from hgs
          have hRg : goW (pl ms) F.who F.follow F.slash i (p :: rest) hops = R := by rw [← hFi.out]; rfl
          rw [hRg] at hst
          have HST := Lib.hid hst
          have hpos : (0 : Int) < ((p :: rest).length : Int) := by rw [hkl]; omega
          have hl1 : (p :: rest).length - 1 = rest.length := by simp
          have HK := Lib.hid hk
          clear hst hRg hVs hW2 hgs hrt hrt' hr0 hcc hk hFi hkl
          go_wp2_with fail
          refine HST.out.mono ?_
          intro e w5 h
          rcases h with ⟨n, hR5, hn5, rfl, hg5⟩ | ⟨i5, left5, hops5, sp5, ⟨vl5, rfl, hw5, hg5⟩, hf5, hh5, hm5⟩
          · have HR5 := Lib.hid hR5
            have HN5 := Lib.hid hn5
            clear hR5 hn5
            go_wp2_with fail
            go_ret
            exact .inl ⟨n, _, HR5.out, HN5.out, .inr ⟨bs p, rfl⟩, rfl, hg5⟩
          · have HW5 := Lib.hid hw5
            have HF5 := Lib.hid hf5
            have HM5 : Hid ((8 - hops5) * 101 + left5.length < gk) := Lib.hid (by rw [HK.out]; exact hm5)
            clear hw5 hf5 hm5
            go_wp2_with fail
            go_roundg ((8 - hops5) * 101 + left5.length)
            case measure => exact HM5.out
            case rel => exact ⟨i5, vl5, left5, hops5, sp5, rfl, by have := HM5.out; omega, hh5, HW5, HF5, Lib.hid hg5⟩
theorem goAll_any (b : Nat) (F : WayF) (fr : Int) (vl : Value) (sp : SpotL) (path : Str) (ms : List NodeM) (w : World) (hw : WayM b F fr vl [] 0 sp w) (hv : RdM b F.nodes ms w) (hd : DskOk ms)
    (hdl : ∀ n ∈ pl ms, n.data.length ≤ 10000) (hpl : path.length ≤ 10000) (hsl : F.slash = Lib.hasSuffix path [47]) :
    Calls Tryd.prog 23 #[.pointer (some ⟨b, 0, none⟩), .string (bs path)] w fun e w' => GoIs b F (walkL (pl ms) F.who fr path F.follow) e w w' :=
  goAll_R _ b F fr vl sp path ms w hw hv hd hdl hpl hsl rfl
end Go.Proofs.YtilhiafmljmljaaDoor
namespace Go.Proofs.YtilhiafmljmljaaDoor
open Go.RowKit Go.Shelf
def Posted (p : Prop) : Prop := p
theorem Posted.stop {P : Program} {fn : Func} {R : Ending → World → Prop} {e : Exit} {a : Act} {w : World} (h : Posted (bodyPost P fn R e a w)) : bodyPost P fn R e a w := h
theorem Posted.go {p : Prop} (h : p) : Posted p := h
theorem sets4 {P : World → Prop} {W : World} {b : Nat} {u0 u1 u2 u3 r0 r1 r2 r3 : Value} {t : TypeId} (hb : W.heap[b]? = some (.cells #[r0, r1, r2, r3] t (0, 0)))
    (h : ∀ W', Below b W W' → (∀ g, g ≠ b → W'.heap[g]? = W.heap[g]?) → W'.heap.size = W.heap.size → W'.heap[b]? = some (.cells #[u0, u1, u2, u3] t (0, 0)) → P W') : P ((((W.setCell ⟨b, 0, none⟩ u0).setCell ⟨b, 1, none⟩ u1).setCell ⟨b, 2, none⟩ u2).setCell ⟨b, 3, none⟩ u3) := by
  refine h _ ?_ (fun g hg => ?_) (by simp [World.setCell]) ?_
  · exact (((((Below.refl b W).setCell (p := ⟨b, 0, none⟩) (Nat.le_refl _) u0).setCell (p := ⟨b, 1, none⟩) (Nat.le_refl _) u1).setCell (p := ⟨b, 2, none⟩) (Nat.le_refl _) u2).setCell (p := ⟨b, 3, none⟩) (Nat.le_refl _) u3)
  · exact (Below.heap_setCell _ _ _ g hg).trans ((Below.heap_setCell _ _ _ g hg).trans ((Below.heap_setCell _ _ _ g hg).trans (Below.heap_setCell _ _ _ g hg)))
  · refine (heap_set (heap_set (heap_set (heap_set hb)))).trans ?_
    simp
section
variable {P : Program} {fn : Func} {Q : Ending → World → Prop} {x : Exit} {a : Act} {w : World} {A B : Obj}
theorem post_fresh1 (h : ∀ W, Below w.heap.size w W → W.heap[w.heap.size]? = some A → W.heap.size = w.heap.size + 1 → bodyPost P fn Q x a W) : bodyPost P fn Q x a (w.alloc A) := fresh1 (P := fun W => bodyPost P fn Q x a W) h
theorem calls_fresh1 {f : FuncId} {args : Array Value} (h : ∀ W, Below w.heap.size w W → W.heap[w.heap.size]? = some A → W.heap.size = w.heap.size + 1 → Calls P f args W Q) : Calls P f args (w.alloc A) Q := fresh1 (P := fun W => Calls P f args W Q) h
theorem calls_fresh2 {f : FuncId} {args : Array Value} (h : ∀ W, Below w.heap.size w W → W.heap[w.heap.size]? = some A → W.heap[w.heap.size + 1]? = some B → W.heap.size = w.heap.size + 2 → Calls P f args W Q) : Calls P f args ((w.alloc A).alloc B) Q := fresh2 (P := fun W => Calls P f args W Q) h
theorem code_fresh1 {c : Code} {K : Exit → Act → World → Prop} (h : ∀ W, Below w.heap.size w W → W.heap[w.heap.size]? = some A → W.heap.size = w.heap.size + 1 → c.wp P K a W) : c.wp P K a (w.alloc A) := fresh1 (P := fun W => c.wp P K a W) h
variable {b : Nat} {u0 u1 u2 u3 u4 u5 u6 u7 r0 r1 r2 r3 r4 r5 r6 r7 : Value} {t : TypeId}
theorem post_sets4 (hb : w.heap[b]? = some (.cells #[r0, r1, r2, r3] t (0, 0)))
    (h : ∀ W', Below b w W' → (∀ g, g ≠ b → W'.heap[g]? = w.heap[g]?) → W'.heap.size = w.heap.size → W'.heap[b]? = some (.cells #[u0, u1, u2, u3] t (0, 0)) → bodyPost P fn Q x a W') :
    bodyPost P fn Q x a ((((w.setCell ⟨b, 0, none⟩ u0).setCell ⟨b, 1, none⟩ u1).setCell ⟨b, 2, none⟩ u2).setCell ⟨b, 3, none⟩ u3) := sets4 (P := fun W => bodyPost P fn Q x a W) hb h
end
end Go.Proofs.YtilhiafmljmljaaDoor
namespace Go.Proofs.YtilhiafmljmljaaDoor
open Go.RowKit Go.Shelf
attribute [local go_sem ↓] Go.wp_at_zero Go.wp_at_succ
abbrev spotV (s : SpotL) : Value := .agg #[.int .i64 s.dir, .string (bs s.name), .int .i64 s.ino, .bool s.slash]
def WalkIs (R : ResL) (e : Ending) (w w' : World) : Prop := e = .returned (.tuple #[spotV R.1, .int .i64 R.2]) ∧ Below w.heap.size w w'
def WNodeIs (R : ResL) (e : Ending) (w w' : World) : Prop := e = .returned (.tuple #[.int .i64 (wnodeL R).1, .int .i64 (wnodeL R).2]) ∧ Below w.heap.size w w'
structure DskW (ms : List NodeM) : Prop where
  ok : DskOk ms
  dat : ∀ n ∈ pl ms, n.data.length ≤ 10000
theorem DskW.len {ms : List NodeM} (hd : DskW ms) (i : Int) : (nodeL (pl ms) i).data.length ≤ 10000 := by
  cases hg : gotB (pl ms) i with
  | false => unfold nodeL; rw [hg]; exact Nat.zero_le _
  | true =>
    obtain ⟨k, rfl, hlt, hn, _, _⟩ := right_ok hd.ok.right hg
    rw [hn]; exact hd.dat _ (List.getElem_mem hlt)
theorem cells4 {W : World} {b : Nat} {u0 u1 u2 u3 : Value} {t : TypeId} {f : Nat × Nat} (h : W.heap[b]? = some (.cells #[u0, u1, u2, u3] t f)) :
    W.cell? ⟨b, 0, none⟩ = some u0 ∧ W.cell? ⟨b, 1, none⟩ = some u1 ∧ W.cell? ⟨b, 2, none⟩ = some u2 ∧ W.cell? ⟨b, 3, none⟩ = some u3 := by
  refine ⟨?_, ?_, ?_, ?_⟩ <;> (rw [Lib.cell_of_heap h]; rfl)
theorem grown_below_b' {b B : Nat} {w w' : World} (h : w.grownBy w' (some b)) (hb : B ≤ b) (hw : B ≤ w.heap.size) : Below B w w' := ⟨h.os, h.tape, h.output, h.size, fun k hk => h.block k (by omega) (by intro e; cases e; omega)⟩
theorem fresh1d {P : World → Prop} {w : World} {A : Obj} (h : ∀ W, Below w.heap.size w W → W.heap[w.heap.size]? = some A → W.heap.size = w.heap.size + 1 → P W) : P (w.alloc A).drew :=
  h _ ((Below.refl _ w).alloc (Nat.le_refl _) _).drew (heap_alloc_new w A) (by simp)
set_option maxRecDepth 100000 in
set_option maxHeartbeats 4000000 in
theorem walk_R (R : ResL) (v : Value) (ms : List NodeM) (most room who fr : Int) (path : Str) (follow : Bool) (w : World) (hv : RdM w.heap.size v ms w) (hd : DskW ms) (hpl : path.length ≤ 10000)
    (hg : w.cell? ⟨0, 0, none⟩ = some errTypeV) (hR : R = walkL (pl ms) who fr path follow) :
    Calls Tryd.prog 15 #[.agg #[v, .int .i64 most, .int .i64 room], .int .i64 who, .int .i64 fr, .string (bs path), .bool follow] w fun e w' => WalkIs R e w w' := by
  obtain ⟨aod, capd, rfl, _, _⟩ := rdm_form hv
  have HV := Lib.hid hv
  have hglt := World.block_lt_of_cell? w _ hg
  have HGl := Lib.hid hg
  have HR := Lib.hid hR
  have hret : ∀ (W : World) (cs : Array Value) (fr), W.heap[w.heap.size + 1]? = some (.cells cs 56 fr) → cs.size = 4 → ∀ tmps : Array Value, tmps.getD 10 undef = .pointer (some ⟨w.heap.size + 1, 0, none⟩) → (results Tryd.f15 tmps).run Tryd.prog W = .ok (.tuple #[.agg cs, tmps.getD 11 undef]) W := fun W cs fr h hs tmps ht =>
    results_ct (p := 10) (u := 11) (ty := 56) rfl tmps W (w.heap.size + 1) _ cs fr _ ht h Tryd.underlying56 rfl (by rw [hs]; kernel_rfl)
  have HRET := Lib.hid hret
  clear hv hg hR hret
  go_enter Tryd.func15, Tryd.ntmps15
  go_wp2_with fail
  refine fresh2 (P := fun W => Code.wp _ _ _ _ W) ?_
  intro W0 hb0 hP hQ hs0
  obtain ⟨p0, p1, p2⟩ := cells3 hP
  have hsz : (bs path).size ≤ 9223372036854775807 := by rw [bs_size]; omega
  have hS : ∀ W, Below W0.heap.size W0 W → W.cell? ⟨w.heap.size, 0, none⟩ = some (.slice aod ms.length capd) ∧ W.cell? ⟨w.heap.size, 1, none⟩ = some (.int .i64 most) ∧ W.cell? ⟨w.heap.size, 2, none⟩ = some (.int .i64 room) := fun W hb => cells3 ((hb.block _ (by omega)).trans hP)
  have HSS := Lib.hid hS
  clear hS p0 p1 p2
  go_region_held3 (fun W => W.cell? ⟨w.heap.size, 0, none⟩ = some (.slice aod ms.length capd) ∧ W.cell? ⟨w.heap.size, 1, none⟩ = some (.int .i64 most) ∧ W.cell? ⟨w.heap.size, 2, none⟩ = some (.int .i64 room))
    (first
      | exact HSS.out _ (by go_grown)
      | go_keep)
    (first
      | (go_at_call 22; (with_reducible refine (Tryd.strings_HasSuffix _ _ _ hsz).mono ?_); rintro e w' ⟨rfl, rfl⟩)
      | fail)
  all_goals
    refine fresh1d (P := fun W => Exit.then _ _ _ _ W) ?_
    intro W1 hb1 hW1 hs1
    rw [hs0] at hW1
    have hB1 := ret_tr hb0 hb1
    have hway : WayM (w.heap.size + 2) ⟨.slice aod ms.length capd, most, room, who, follow, Lib.hasSuffix path [47]⟩ fr (.slice none 0 0) [] 0 ⟨0, [], 0, false⟩ W1 := ⟨hW1, Rd.none0 _ _ _, fun e => by cases e⟩
    have hvb : RdM (w.heap.size + 2) (.slice aod ms.length capd) ms W1 := (HV.out.below hB1).mono (by omega)
    have HGo := Lib.hid (goAll_any (w.heap.size + 2) ⟨.slice aod ms.length capd, most, room, who, follow, Lib.hasSuffix path [47]⟩ fr (.slice none 0 0) ⟨0, [], 0, false⟩ path ms W1 hway hvb hd.ok hd.dat hpl rfl)
    have hQ1 := Lib.hid ((hb1.block _ (by omega)).trans hQ)
    clear hway hvb hW1 HSS hb1
    go_wp2_with fail
    refine HGo.out.mono ?_
    intro e w2 h
    rcases h with ⟨n, v, hRn, hn, herr, rfl, hgr⟩ | ⟨i2, left2, hops2, sp2, hRn, vl2, rfl, hw2, hgr⟩
    · have HRn : Hid (R = (zeroS, n)) := Lib.hid (HR.out.trans hRn)
      have hB2 : Below w.heap.size w w2 := hB1.trans (grown_below_b' hgr (by omega) (by omega))
      have hQ2 := (hgr.block (w.heap.size + 1) (by omega) (by simp)).trans hQ1.out
      have hg2 := (hB2.cell (p := ⟨0, 0, none⟩) hglt).trans HGl.out
      have hs2 := hgr.size
      have hNum := number_any v n w2 herr hg2
      have HNum := Lib.hid hNum
      have HB2 := Lib.hid hB2
      have HQ2 := Lib.hid hQ2
      have hvi : ∃ ty d, v = .iface ty d := by
        rcases herr with rfl | ⟨p, rfl⟩
        · exact ⟨_, _, rfl⟩
        · exact ⟨_, _, rfl⟩
      obtain ⟨ty, d, rfl⟩ := hvi
      clear hRn hn herr hgr hB2 hQ2 hg2 hNum hB1 hQ1 HGo hb0 hP hQ
      go_wp2_with fail
      refine HNum.out.mono ?_
      rintro e w3 ⟨rfl, hb3⟩
      have hQ3 := (hb3.block _ (by omega)).trans HQ2.out
      obtain ⟨q0, q1, q2, q3⟩ := cells4 hQ3
      have rf := fun j => Lib.frozen_of_heap hQ3 j
      go_wp2_with fail
      refine post_sets4 hQ3 ?_
      intro W4 hb4 hg4 hs4 hR4
      refine bodyPost_ret (HRET.out _ _ _ hR4 rfl _ rfl) rfl ?_
      exact ⟨by rw [HRn.out]; rfl, (ret_tr HB2.out hb3).trans (hb4.mono (by omega))⟩
    · have HRn : Hid (R = (sp2, 0)) := Lib.hid (HR.out.trans hRn)
      have hB2 : Below w.heap.size w w2 := hB1.trans (grown_below_b' hgr (by omega) (by omega))
      have hQ2 := (hgr.block (w.heap.size + 1) (by omega) (by simp)).trans hQ1.out
      have HB2 := Lib.hid hB2
      have hs2 := hgr.size
      obtain ⟨c0, c1, c2, c3, c4, c5, c6, c7, c8, c9, c10, c11, c12⟩ := cells13 hw2.blk
      obtain ⟨q0, q1, q2, q3⟩ := cells4 hQ2
      have rf := fun j => Lib.frozen_of_heap hQ2 j
      clear hRn hw2 hgr hB2 hB1 hQ1 HGo hb0 hP hQ c0 c1 c2 c3 c4 c5 c6 c7 c8
      go_wp2_with fail
      refine post_sets4 hQ2 ?_
      intro W4 hb4 hg4 hs4 hR4
      refine bodyPost_ret (HRET.out _ _ _ hR4 rfl _ rfl) rfl ?_
      exact ⟨by rw [HRn.out]; rfl, HB2.out.trans (hb4.mono (by omega))⟩
theorem walk_any (v : Value) (ms : List NodeM) (most room who fr : Int) (path : Str) (follow : Bool) (w : World) (hv : RdM w.heap.size v ms w) (hd : DskW ms) (hpl : path.length ≤ 10000) (hg : w.cell? ⟨0, 0, none⟩ = some errTypeV) :
    Calls Tryd.prog 15 #[.agg #[v, .int .i64 most, .int .i64 room], .int .i64 who, .int .i64 fr, .string (bs path), .bool follow] w fun e w' => WalkIs (walkL (pl ms) who fr path follow) e w w' :=
  walk_R _ v ms most room who fr path follow w hv hd hpl hg rfl
end Go.Proofs.YtilhiafmljmljaaDoor
namespace Go.Proofs.YtilhiafmljmljaaDoor
theorem go_ind (l : List NodeL) (who : Int) (follow slash : Bool) (M : Int → List Str → Nat → ResL → Prop)
    (nil : ∀ i hops, M i [] hops (⟨0, [], 0, slash⟩, 0))
    (dir : ∀ i hops p rest, dirE l i ≠ 0 → M i (p :: rest) hops (zeroS, dirE l i))
    (may : ∀ i hops p rest, dirE l i = 0 → mayAt l who i = false → M i (p :: rest) hops (zeroS, 7))
    (none1 : ∀ i hops p, dirE l i = 0 → mayAt l who i = true → lookL l i p < 0 → M i [p] hops (⟨i, p, -1, slash⟩, 0))
    (none2 : ∀ i hops p rest, dirE l i = 0 → mayAt l who i = true → lookL l i p < 0 → rest ≠ [] → M i (p :: rest) hops (zeroS, 2))
    (loop : ∀ i hops p rest, dirE l i = 0 → mayAt l who i = true → ¬ lookL l i p < 0 → (nodeL l (lookL l i p)).kind = 3 → (rest ≠ [] ∨ follow = true ∨ slash = true) → 8 ≤ hops → M i (p :: rest) hops (zeroS, 8))
    (bad : ∀ i hops p rest, dirE l i = 0 → mayAt l who i = true → ¬ lookL l i p < 0 → (nodeL l (lookL l i p)).kind = 3 → (rest ≠ [] ∨ follow = true ∨ slash = true) → ¬ 8 ≤ hops → checkE (nodeL l (lookL l i p)).data ≠ 0 → M i (p :: rest) hops (zeroS, checkE (nodeL l (lookL l i p)).data))
    (link : ∀ i hops p rest R, dirE l i = 0 → mayAt l who i = true → ¬ lookL l i p < 0 → (nodeL l (lookL l i p)).kind = 3 → (rest ≠ [] ∨ follow = true ∨ slash = true) → ¬ 8 ≤ hops → checkE (nodeL l (lookL l i p)).data = 0 →
      M (firstAt i (nodeL l (lookL l i p)).data) (parts (nodeL l (lookL l i p)).data ++ rest) (hops + 1) R → M i (p :: rest) hops R)
    (file : ∀ i hops p, dirE l i = 0 → mayAt l who i = true → ¬ lookL l i p < 0 → ¬ ((nodeL l (lookL l i p)).kind = 3 ∧ (follow = true ∨ slash = true)) → slash = true → (nodeL l (lookL l i p)).kind ≠ 2 → M i [p] hops (zeroS, 4))
    (spot : ∀ i hops p, dirE l i = 0 → mayAt l who i = true → ¬ lookL l i p < 0 → ¬ ((nodeL l (lookL l i p)).kind = 3 ∧ (follow = true ∨ slash = true)) → ¬ (slash = true ∧ (nodeL l (lookL l i p)).kind ≠ 2) → M i [p] hops (⟨i, p, lookL l i p, slash⟩, 0))
    (on : ∀ i hops p rest R, dirE l i = 0 → mayAt l who i = true → ¬ lookL l i p < 0 → (nodeL l (lookL l i p)).kind ≠ 3 → rest ≠ [] → M (lookL l i p) rest hops R → M i (p :: rest) hops R) :
    ∀ i ps hops, M i ps hops (goW l who follow slash i ps hops) := by
  intro i ps hops
  induction i, ps, hops using goW.induct l who follow slash with
  | case1 i hops => rw [go_nil]; exact nil i hops
  | case2 i hops p rest h => rw [go_dir h]; exact dir _ _ _ _ h
  | case3 i hops p rest h h2 =>
    have h := Decidable.not_not.1 h
    rw [go_may h h2]; exact may _ _ _ _ h h2
  | case4 i hops p h h2 h3 =>
    have h := Decidable.not_not.1 h
    have h2 := Bool.not_eq_false _ ▸ h2
    rw [go_none1 h h2 h3 rfl]; exact none1 _ _ _ h h2 h3
  | case5 i hops p rest h h2 h3 h4 =>
    have h := Decidable.not_not.1 h
    have h2 := Bool.not_eq_false _ ▸ h2
    rw [go_none2 h h2 h3 h4]; exact none2 _ _ _ _ h h2 h3 h4
  | case6 i hops p rest h h2 h3 h4 h5 =>
    have h := Decidable.not_not.1 h
    have h2 := Bool.not_eq_false _ ▸ h2
    rw [go_loop h h2 h3 h4.1 h4.2 h5]; exact loop _ _ _ _ h h2 h3 h4.1 h4.2 h5
  | case7 i hops p rest h h2 h3 h4 h5 h6 =>
    have h := Decidable.not_not.1 h
    have h2 := Bool.not_eq_false _ ▸ h2
    rw [go_bad h h2 h3 h4.1 h4.2 h5 h6]; exact bad _ _ _ _ h h2 h3 h4.1 h4.2 h5 h6
  | case8 i hops p rest h h2 h3 h4 h5 h6 ih =>
    have h := Decidable.not_not.1 h
    have h2 := Bool.not_eq_false _ ▸ h2
    have h6 := Decidable.not_not.1 h6
    rw [go_link h h2 h3 h4.1 h4.2 h5 h6]; exact link _ _ _ _ _ h h2 h3 h4.1 h4.2 h5 h6 ih
  | case9 i hops p h h2 h3 h4 h5 =>
    have h := Decidable.not_not.1 h
    have h2 := Bool.not_eq_false _ ▸ h2
    rw [go_file h h2 h3 h5 rfl h4]; exact file _ _ _ h h2 h3 (fun h => h5 ⟨h.1, .inr h.2⟩) h4.1 h4.2
  | case10 i hops p h h2 h3 h4 h5 =>
    have h := Decidable.not_not.1 h
    have h2 := Bool.not_eq_false _ ▸ h2
    rw [go_spot h h2 h3 h5 rfl h4]; exact spot _ _ _ h h2 h3 (fun h => h5 ⟨h.1, .inr h.2⟩) h4
  | case11 i hops p rest h h2 h3 h4 h5 ih =>
    have h := Decidable.not_not.1 h
    have h2 := Bool.not_eq_false _ ▸ h2
    have hk : (nodeL l (lookL l i p)).kind ≠ 3 := fun hk => h4 ⟨hk, .inl h5⟩
    rw [go_on h h2 h3 hk h5]; exact on _ _ _ _ _ h h2 h3 hk h5 ih
theorem go_ino {l : List NodeL} (h : RightP l) (who : Int) (follow slash : Bool) : ∀ i ps hops, (goW l who follow slash i ps hops).2 = 0 → (goW l who follow slash i ps hops).1.ino = -1 ∨ gotB l (goW l who follow slash i ps hops).1.ino = true := by
  refine go_ind l who follow slash (fun _ _ _ R => R.2 = 0 → R.1.ino = -1 ∨ gotB l R.1.ino = true) ?_ ?_ ?_ ?_ ?_ ?_ ?_ ?_ ?_ ?_ ?_
  · intro i hops _; exact .inr (right_root h).2
  · intro i hops p rest hd he; exact absurd he hd
  · intro i hops p rest _ _ he; cases he
  · intro i hops p _ _ _ _; exact .inl rfl
  · intro i hops p rest _ _ _ _ he; cases he
  · intro i hops p rest _ _ _ _ _ _ he; cases he
  · intro i hops p rest _ _ _ _ _ _ hc he; exact absurd he hc
  · intro i hops p rest R _ _ _ _ _ _ _ ih; exact ih
  · intro i hops p _ _ _ _ _ _ he; cases he
  · intro i hops p hd _ hn _ _ _; exact .inr ((look_got h hd p).2 hn)
  · intro i hops p rest R _ _ _ _ _ ih; exact ih
theorem walk_ino {l : List NodeL} (h : RightP l) (who fr : Int) (path : Str) (follow : Bool) (he : (walkL l who fr path follow).2 = 0) : (walkL l who fr path follow).1.ino = -1 ∨ gotB l (walkL l who fr path follow).1.ino = true := by
  unfold walkL at he ⊢
  split at he
  · rename_i hc; exact absurd he hc
  · rename_i hc
    rw [if_neg hc]
    split at he
    · rename_i hp
      rw [if_pos hp]
      split at he
      · rename_i hd; exact absurd he hd
      · rename_i hd
        rw [if_neg hd]
        exact .inr (dir_got (Decidable.not_not.1 hd)).1
    · rename_i hp
      rw [if_neg hp]
      exact go_ino h _ _ _ _ _ _ he
end Go.Proofs.YtilhiafmljmljaaDoor
