import Derived.Test.YtilhiafmljmljaaDoorR18
import Derived.Laws.ResultCell
import Derived.Test.YtilhiafmljmljaaDoorR13
import Derived.Test.YtilhiafmljmljaaDoorR15
import Derived.Test.YtilhiafmljmljaaDoorR16
import Derived.Deep.RegionHeld3
import Derived.Deep.RegionLaw
import Derived.Handy
namespace Go.Proofs.YtilhiafmljmljaaDoor
open Go.RowKit Go.Shelf
attribute [local go_sem ↓] Go.wp_at_zero Go.wp_at_succ
theorem results_ct {P : Program} {fn : Func} {p u : Tmp} {ty : TypeId} (h : fn.results = #[.cell p ty, .tmp u]) (tmps : Array Value) (w : World) (g : Nat) (t : TypeId) (cs : Array Value) (fr : Nat × Nat) (d : TypeDesc)
    (hp : tmps.getD p undef = .pointer (some ⟨g, 0, none⟩)) (hg : w.heap[g]? = some (.cells cs t fr))
    (hu : P.underlying ty = some d) (hd : (match d with | .struct _ | .array _ _ => true | _ => false) = true) (hi : (P.info? ty).map (·.size) = some cs.size) :
    (results fn tmps).run P w = .ok (.tuple #[.agg cs, tmps.getD u undef]) w := by
  rw [results_cell_tmp h, hp]
  simp [asAddr, run_loadVar_row w g t ty cs fr d hg hu hd hi, Result.andThen]
def getL (l : List NodeL) (i : Int) : NodeL := if gotB l i then atI l i else zeroN
def GetIs (l : List NodeL) (i : Int) (e : Ending) (W W' : World) : Prop :=
  ∃ v, e = .returned (.tuple #[nval (getL l i) v, .bool (gotB l i)]) ∧ RdNm W'.heap.size (getL l i, v) W' ∧ Below W.heap.size W W'
theorem get_no {l : List NodeL} {i : Int} {w W : World} (h : gotB l i = false) (hb : Below w.heap.size w W) : GetIs l i (.returned (.tuple #[.agg #[.int .i64 0, .int .i64 0, .int .i64 0, .int .i64 0, .int .i64 0, .int .i64 0, .string ⟨#[]⟩, .slice none 0 0], .bool false])) w W :=
  ⟨.slice none 0 0, by unfold getL; rw [h]; rfl, by unfold getL; rw [h]; exact Rd.none0 _ _ _, hb⟩
def GetNew (l : List NodeL) (i : Int) (e : Ending) (W W' : World) : Prop :=
  ∃ v, e = .returned (.tuple #[nval (getL l i) v, .bool (gotB l i)]) ∧ RdNm W'.heap.size (getL l i, v) W' ∧ Below W.heap.size W W' ∧ NewV W.heap.size v
theorem getn_no {l : List NodeL} {i : Int} {w W : World} (h : gotB l i = false) (hb : Below w.heap.size w W) : GetNew l i (.returned (.tuple #[.agg #[.int .i64 0, .int .i64 0, .int .i64 0, .int .i64 0, .int .i64 0, .int .i64 0, .string ⟨#[]⟩, .slice none 0 0], .bool false])) w W :=
  ⟨.slice none 0 0, by unfold getL; rw [h]; rfl, by unfold getL; rw [h]; exact Rd.none0 _ _ _, hb, NewV.none0 _⟩
set_option maxRecDepth 100000 in
set_option maxHeartbeats 2000000 in
theorem get_new (v : Value) (ms : List NodeM) (most room i : Int) (w : World) (hv : RdM w.heap.size v ms w) (hl : ms.length ≤ 10000) (hnl : ∀ n ∈ pl ms, n.names.length ≤ 10000) :
    Calls Tryd.prog 37 #[.agg #[v, .int .i64 most, .int .i64 room], .int .i64 i] w fun e w' => GetNew (pl ms) i e w w' := by
  obtain ⟨ao, cap, rfl, _, _⟩ := rdm_form hv
  have HV := Lib.hid hv
  clear hv
  have hret : ∀ (W : World) (cs : Array Value) (fr), W.heap[w.heap.size + 1]? = some (.cells cs 44 fr) → cs.size = 8 → ∀ tmps : Array Value, tmps.getD 4 undef = .pointer (some ⟨w.heap.size + 1, 0, none⟩) → (results Tryd.f37 tmps).run Tryd.prog W = .ok (.tuple #[.agg cs, tmps.getD 5 undef]) W := fun W cs fr h hs tmps ht =>
    results_ct (p := 4) (u := 5) (ty := 44) rfl tmps W (w.heap.size + 1) _ cs fr _ ht h Tryd.underlying44 rfl (by rw [hs]; kernel_rfl)
  cases hi : inL (pl ms) i with
  | false =>
    have HI := Lib.hid hi
    have HG : Hid (gotB (pl ms) i = false) := Lib.hid (by unfold gotB; rw [hi]; rfl)
    clear hi
    go_enter Tryd.func37, Tryd.ntmps37
    go_wp2_with fail
    refine fresh2 (P := fun W => Calls _ _ _ W _) ?_
    intro W0 hb0 hP hQ hs0
    refine (has_any (pl ms) ao ms.length cap most room i _ (pl_len ms).symm (by omega)).mono ?_
    rintro e W1 ⟨rfl, hb1⟩
    rw [HI.out]
    have hQ1 := (hb1.block _ (by omega)).trans hQ
    have hB1 := ret_tr hb0 hb1
    obtain ⟨q0, q1, q2, q3, q4, q5, q6, q7⟩ := cells8 hQ1
    have rf := fun j => Lib.frozen_of_heap hQ1 j
    clear hP hQ hb0 hb1
    go_wp2_with fail
    refine sets8 (P := fun W => bodyPost _ _ _ _ _ W) hQ1 ?_
    intro W3 hb3 hg3 hs3 hR3
    refine bodyPost_ret (hret _ _ _ hR3 rfl _ rfl) rfl ?_
    exact getn_no HG.out (hB1.trans (hb3.mono (by omega)))
  | true =>
    obtain ⟨k, rfl, hk⟩ := in_nat hi
    have hat := at_nat (pl ms) k hk
    rw [pl_len] at hk
    have HI := Lib.hid hi
    have HA := Lib.hid hat
    have k0 : (0 : Int) ≤ (k : Int) := by omega
    have k1 : (k : Int) < (ms.length : Int) := by omega
    clear hat
    go_enter Tryd.func37, Tryd.ntmps37
    go_wp2_with fail
    refine fresh2 (P := fun W => Calls _ _ _ W _) ?_
    intro W0 hb0 hP hQ hs0
    refine (has_any (pl ms) ao ms.length cap most room k _ (pl_len ms).symm (by omega)).mono ?_
    rintro e W1 ⟨rfl, hb1⟩
    rw [HI.out]
    have hP1 := (hb1.block _ (by omega)).trans hP
    have hQ1 := (hb1.block _ (by omega)).trans hQ
    have hB1 := ret_tr hb0 hb1
    have hs1 := hb1.size
    have p0 := (cells3 hP1).1
    clear hP hQ hb0 hb1
    obtain ⟨b, off, n, aon, capn, rfl, hb, hn, -, hrn, c0, c1, c2, c3, c4, c5, c6, c7⟩ := node_at (HV.out.below hB1) k hk
    rw [hn] at HA
    have hnn : n.names.length ≤ 10000 := hnl n (by rw [← hn]; exact List.getElem_mem _)
    have HR1 : Hid (RdNm W1.heap.size (n, .slice aon n.names.length capn) W1) := Lib.hid (Rd.mono hrn hB1.size)
    clear hn hrn
    by_cases h0 : n.kind = 0
    · have hd : decide (n.kind = 0) = true := by simpa using h0
      have HG : Hid (gotB (pl ms) k = false) := Lib.hid (by unfold gotB; rw [HA.out, hd, Bool.not_true, Bool.and_false])
      clear h0 hi
      go_wp2_with fail
      refine (free_any n _ _).mono ?_
      rintro e W2 ⟨rfl, hb2⟩
      rw [hd]
      have hQ2 := (hb2.block _ (by omega)).trans hQ1
      have hB2 := ret_tr hB1 hb2
      have hs2 := hb2.size
      clear hP1 hQ1 hB1 hb2 c0 c1 c2 c3 c4 c5 c6 c7 p0
      obtain ⟨q0, q1, q2, q3, q4, q5, q6, q7⟩ := cells8 hQ2
      have rf := fun j => Lib.frozen_of_heap hQ2 j
      go_wp2_with fail
      refine sets8 (P := fun W => bodyPost _ _ _ _ _ W) hQ2 ?_
      intro W3 hb3 hg3 hs3 hR3
      refine bodyPost_ret (hret _ _ _ hR3 rfl _ rfl) rfl ?_
      exact getn_no HG.out (hB2.trans (hb3.mono (by omega)))
    · have hd : decide (n.kind = 0) = false := by simpa using h0
      have HG : Hid (gotB (pl ms) k = true) := Lib.hid (by unfold gotB; rw [HA.out, hd, hi]; rfl)
      clear h0 hi
      go_wp2_with fail
      refine (free_any n _ _).mono ?_
      rintro e W2 ⟨rfl, hb2⟩
      rw [hd]
      have hP2 := (hb2.block _ (by omega)).trans hP1
      have hQ2 := (hb2.block _ (by omega)).trans hQ1
      have hB2 := ret_tr hB1 hb2
      have hs2 := hb2.size
      have HR2 := Lib.hid (rdnm_keep HR1.out hb2)
      have p2 := (cells3 hP2).1
      have bb : b < W1.heap.size := by omega
      have d0 := (hb2.cell (p := ⟨b, off + k * 8, none⟩) bb).trans c0
      have d1 := (hb2.cell (p := ⟨b, off + k * 8 + 1, none⟩) bb).trans c1
      have d2 := (hb2.cell (p := ⟨b, off + k * 8 + 2, none⟩) bb).trans c2
      have d3 := (hb2.cell (p := ⟨b, off + k * 8 + 3, none⟩) bb).trans c3
      have d4 := (hb2.cell (p := ⟨b, off + k * 8 + 4, none⟩) bb).trans c4
      have d5 := (hb2.cell (p := ⟨b, off + k * 8 + 5, none⟩) bb).trans c5
      have d6 := (hb2.cell (p := ⟨b, off + k * 8 + 6, none⟩) bb).trans c6
      have d7 := (hb2.cell (p := ⟨b, off + k * 8 + 7, none⟩) bb).trans c7
      clear hP1 hQ1 hB1 hb2 c0 c1 c2 c3 c4 c5 c6 c7 p0
      go_wp2_with fail
      refine (own_any n _ _ HR2.out hnn).mono ?_
      rintro e W3 ⟨v', rfl, hoN, hbN⟩
      have hQ3 := (hbN.block _ (by omega)).trans hQ2
      have hB3 := ret_tr hB2 hbN
      have hs3 := hbN.size
      clear hP2 hQ2 hbN p2 d0 d1 d2 d3 d4 d5 d6 d7
      obtain ⟨q0, q1, q2, q3, q4, q5, q6, q7⟩ := cells8 hQ3
      have rf := fun j => Lib.frozen_of_heap hQ3 j
      obtain ⟨aov, capv, rfl⟩ := own_form hoN
      go_wp2_with fail
      refine sets8 (P := fun W => bodyPost _ _ _ _ _ W) hQ3 ?_
      intro W4 hb4 hg4 hs4 hR4
      refine bodyPost_ret (hret _ _ _ hR4 rfl _ rfl) rfl ?_
      have hget : getL (pl ms) k = n := by unfold getL; rw [HG.out, HA.out]; rfl
      refine ⟨.slice aov n.names.length capv, by rw [hget, HG.out]; rfl, ?_, hB3.trans (hb4.mono (by omega)), (NewV.own hoN).mono hB2.size⟩
      rw [hget]
      exact Rd.own (ownsRow_other hoN fun g hg => hg4 g (by omega)) (Nat.le_refl _)
theorem get_any (v : Value) (ms : List NodeM) (most room i : Int) (w : World) (hv : RdM w.heap.size v ms w) (hl : ms.length ≤ 10000) (hnl : ∀ n ∈ pl ms, n.names.length ≤ 10000) :
    Calls Tryd.prog 37 #[.agg #[v, .int .i64 most, .int .i64 room], .int .i64 i] w fun e w' => GetIs (pl ms) i e w w' :=
  (get_new v ms most room i w hv hl hnl).mono fun _ _ ⟨v', h1, h2, h3, _⟩ => ⟨v', h1, h2, h3⟩
end Go.Proofs.YtilhiafmljmljaaDoor
namespace Go.Proofs.YtilhiafmljmljaaDoor
open Go.RowKit Go.Shelf
attribute [local go_sem ↓] Go.wp_at_zero Go.wp_at_succ
structure WayF where
  nodes : Value
  most : Int
  room : Int
  who : Int
  follow : Bool
  slash : Bool
abbrev wcells (F : WayF) (i : Int) (vl : Value) (hops : Int) (sp : SpotL) : Array Value :=
  #[F.nodes, .int .i64 F.most, .int .i64 F.room, .int .i64 F.who, .bool F.follow, .bool F.slash, .int .i64 i, vl, .int .i64 hops, .int .i64 sp.dir, .string (bs sp.name), .int .i64 sp.ino, .bool sp.slash]
structure WayM (b : Nat) (F : WayF) (i : Int) (vl : Value) (left : List Str) (hops : Nat) (sp : SpotL) (W : World) : Prop where
  blk : W.heap[b]? = some (.cells (wcells F i vl hops sp) 73 (0, 0))
  lft : Rd W.heap.size 1 vl left.length (strs left) W
  far : vl.ownBlock ≠ some b
theorem WayM.lt {b : Nat} {F : WayF} {i : Int} {vl : Value} {left : List Str} {hops : Nat} {sp : SpotL} {W : World} (h : WayM b F i vl left hops sp W) : b < W.heap.size := (Array.getElem?_eq_some_iff.1 h.blk).1
theorem WayM.keep {b : Nat} {F : WayF} {i : Int} {vl : Value} {left : List Str} {hops : Nat} {sp : SpotL} {W W' : World} (h : WayM b F i vl left hops sp W) (hb : Below W.heap.size W W') : WayM b F i vl left hops sp W' :=
  ⟨(hb.block b h.lt).trans h.blk, rd_keep h.lft hb, h.far⟩
theorem cells13 {W : World} {b : Nat} {u0 u1 u2 u3 u4 u5 u6 u7 u8 u9 u10 u11 u12 : Value} {t : TypeId} {f : Nat × Nat} (h : W.heap[b]? = some (.cells #[u0, u1, u2, u3, u4, u5, u6, u7, u8, u9, u10, u11, u12] t f)) :
    W.cell? ⟨b, 0, none⟩ = some u0 ∧ W.cell? ⟨b, 1, none⟩ = some u1 ∧ W.cell? ⟨b, 2, none⟩ = some u2 ∧ W.cell? ⟨b, 3, none⟩ = some u3 ∧ W.cell? ⟨b, 4, none⟩ = some u4 ∧ W.cell? ⟨b, 5, none⟩ = some u5 ∧ W.cell? ⟨b, 6, none⟩ = some u6 ∧ W.cell? ⟨b, 7, none⟩ = some u7
      ∧ W.cell? ⟨b, 8, none⟩ = some u8 ∧ W.cell? ⟨b, 9, none⟩ = some u9 ∧ W.cell? ⟨b, 10, none⟩ = some u10 ∧ W.cell? ⟨b, 11, none⟩ = some u11 ∧ W.cell? ⟨b, 12, none⟩ = some u12 := by
  refine ⟨?_, ?_, ?_, ?_, ?_, ?_, ?_, ?_, ?_, ?_, ?_, ?_, ?_⟩ <;> (rw [Lib.cell_of_heap h]; rfl)
theorem rd_grown {b n size : Nat} {v : Value} {xs : List Value} {W W' : World} (h : Rd W.heap.size size v n xs W) (hg : W.grownBy W' (some b)) (hf : v.ownBlock ≠ some b) : Rd W'.heap.size size v n xs W' :=
  (h.grown hg (Nat.le_refl _) fun g e => by cases e; exact hf).mono hg.size
theorem grown_sc {b i : Nat} {W W' : World} (h : W.grownBy W' (some b)) (u : Value) : W.grownBy (W'.setCell ⟨b, i, none⟩ u) (some b) := grown_tr h (grown_set _ ⟨b, i, none⟩ u)
theorem WayM.setAt {b : Nat} {F : WayF} {i : Int} {vl : Value} {left : List Str} {hops : Nat} {sp : SpotL} {W : World} (h : WayM b F i vl left hops sp W) (j : Int) : WayM b F j vl left hops sp (W.setCell ⟨b, 6, none⟩ (.int .i64 j)) :=
  ⟨(heap_set h.blk).trans (by simp), rd_grown h.lft (grown_set _ _ _) h.far, h.far⟩
def Cat2 (l : List Str) (e : Ending) (X W' : World) : Prop := ∃ v, e = .returned v ∧ W'.ownsRow (X.heap.size + 1) 9 1 v l.length (strs l) ∧ Below X.heap.size X W'
theorem cat2 (X : World) (vp vl : Value) (P L : List Str) (hP : Rd X.heap.size 1 vp P.length (strs P) X) (hL : Rd X.heap.size 1 vl L.length (strs L) X) (h1 : P.length ≤ 10000) (h2 : L.length ≤ 10000) :
    Calls Tryd.prog 54 #[.slice (some ⟨X.heap.size, 0, none⟩) 2 2] (X.alloc (.cells #[vp, vl] 71)) fun e w' => Cat2 (P ++ L) e X w' := by
  have hb0 : Below X.heap.size X (X.alloc (.cells #[vp, vl] 71)) := (Below.refl _ X).alloc (Nat.le_refl _) _
  have hblk := heap_alloc_new X (.cells #[vp, vl] 71)
  have hz : (X.alloc (.cells #[vp, vl] 71)).heap.size = X.heap.size + 1 := by simp
  refine (sconcat_any X.heap.size 0 2 [(vp, P), (vl, L)] (X.alloc (.cells #[vp, vl] 71)) (by simp) ?_ ?_ (by simp)).mono ?_
  · intro k hk
    have h3 : k = 0 ∨ k = 1 := by simp at hk; omega
    rcases h3 with rfl | rfl
    · exact ⟨by rw [Lib.cell_of_heap hblk]; rfl, rd_keep hP hb0⟩
    · exact ⟨by rw [Lib.cell_of_heap hblk]; rfl, rd_keep hL hb0⟩
  · intro x hx
    simp only [List.mem_cons, List.not_mem_nil, or_false] at hx
    rcases hx with rfl | rfl
    · show P.length ≤ 10001; omega
    · show L.length ≤ 10001; omega
  · rintro e w' ⟨v, rfl, h4, h5⟩
    have e1 : allLS [(vp, P), (vl, L)] = P ++ L := by simp [allLS]
    rw [e1, hz] at h4
    exact ⟨v, rfl, h4, ret_tr hb0 h5⟩
def Wrong (n : Int) (b : Nat) (e : Ending) (w w' : World) : Prop := n ≠ 0 ∧ e = .returned (faultV n) ∧ w.grownBy w' (some b)
def GoesOn (b : Nat) (F : WayF) (i : Int) (left : List Str) (hops : Nat) (sp : SpotL) (e : Ending) (w w' : World) : Prop := ∃ vl, e = .returned .nilIface ∧ WayM b F i vl left hops sp w' ∧ w.grownBy w' (some b)
def TakeIs (n : Int) (b : Nat) (F : WayF) (i : Int) (left : List Str) (hops : Nat) (text : Str) (e : Ending) (w w' : World) : Prop :=
  Wrong n b e w w' ∨ (n = 0 ∧ GoesOn b F (firstAt i text) (parts text ++ left) hops ⟨0, [], 0, F.slash⟩ e w w')
set_option maxRecDepth 100000 in
set_option maxHeartbeats 4000000 in
theorem take_any (b : Nat) (F : WayF) (i : Int) (vl : Value) (left : List Str) (hops : Nat) (sp : SpotL) (text : Str) (w : World) (hw : WayM b F i vl left hops sp w) (hl : left.length ≤ 10000) (ht : text.length ≤ 10000) :
    Calls Tryd.prog 41 #[.pointer (some ⟨b, 0, none⟩), .string (bs text)] w fun e w' => TakeIs (checkE text) b F i left hops text e w w' := by
  obtain ⟨aol, capl, rfl, _, _⟩ := hw.lft.form
  have HW := Lib.hid hw
  have hbl := hw.lt
  have hc := check_any (bs text) (by rw [bs_size]; omega) w
  rw [bs_list] at hc
  have HC := Lib.hid hc
  clear hw hc
  by_cases h0 : checkE text = 0
  · rw [h0] at HC ⊢
    clear h0
    go_enter Tryd.func41, Tryd.ntmps41
    go_wp2_with fail
    refine HC.out.mono ?_
    rintro e w1 ⟨rfl, hb1⟩
    go_wp2_with fail
    refine (split_any (bs text) (by rw [bs_size]; omega) w1).mono ?_
    rintro e w2 ⟨vp, rfl, hown, hb2⟩
    rw [bs_list] at hown ⊢
    have hB2 := ret_tr hb1 hb2
    have hW2 := HW.out.keep hB2
    have HW2 := Lib.hid hW2
    have hs2 := hW2.lt
    obtain ⟨c0, c1, c2, c3, c4, c5, c6, c7, c8, c9, c10, c11, c12⟩ := cells13 hW2.blk
    have rf := fun j => Lib.frozen_of_heap hW2.blk j
    have HG2 := Lib.hid (grown_bel (row := some b) hB2)
    have hfar : vp.ownBlock ≠ some b := fun e => by have := (hown.lt _ e).1; have := hb1.size; omega
    have HO := Lib.hid (Rd.own hown (Nat.le_refl _))
    obtain ⟨aop, capp, rfl⟩ := own_form hown
    have HF := Lib.hid hfar
    have hpl : (parts text).length ≤ 10000 := by have := spans_len text; simp only [parts, List.length_map]; omega
    have hfin : ∀ (W : World) (vl' : Value) (sl : Bool), WayM b F (firstAt i text) vl' (parts text ++ left) hops ⟨0, [], 0, F.slash⟩ W → w.grownBy W (some b) → TakeIs 0 b F i left hops text (.returned .nilIface) w W :=
      fun W vl' _ h1 h2 => .inr ⟨rfl, vl', rfl, h1, h2⟩
    have HFN := Lib.hid hfin
    clear hW2 hown hb1 hb2 hfar HC HW hB2 hfin
    cases hpre : Lib.hasPrefix text [47] with
    | true =>
      have HFi : Hid (firstAt i text = 0) := Lib.hid (by unfold firstAt; rw [if_pos hpre])
      have HW3 := Lib.hid (HW2.out.setAt 0)
      have HG3 := Lib.hid (grown_sc (i := 6) HG2.out (.int .i64 0))
      have HO3 := Lib.hid (rd_grown HO.out (grown_set w2 ⟨b, 6, none⟩ (.int .i64 0)) HF.out)
      have hz : (w2.setCell ⟨b, 6, none⟩ (.int .i64 0)).heap.size = w2.heap.size := by simp [World.setCell]
      clear hpre
      go_wp2_with fail
      clear c0 c1 c2 c3 c4 c5 c6 c7 c8 c9 c10 c11 c12 rf
      generalize w2.setCell ⟨b, 6, none⟩ (.int .i64 0) = X at *
      rw [← hz]
      refine (cat2 X _ _ (parts text) left HO3.out HW3.out.lft hpl hl).mono ?_
      rintro e w3 ⟨v3, rfl, ho3, hb3⟩
      have hW4 := HW3.out.keep hb3
      have HB4 := Lib.hid hW4.blk
      have HG4 := Lib.hid (grown_tr HG3.out (grown_bel (row := some b) hb3))
      have hs3 : X.heap.size ≤ w3.heap.size := hb3.size
      have hbX := HW3.out.lt
      have hne3 : v3.ownBlock ≠ some b := fun e => by have := (ho3.lt _ e).1; omega
      have HV3 := Lib.hid (Rd.own ho3 (Nat.le_refl w3.heap.size))
      have HN3 := Lib.hid hne3
      obtain ⟨d0, d1, d2, d3, d4, d5, d6, d7, d8, d9, d10, d11, d12⟩ := cells13 hW4.blk
      have rg := fun j => Lib.frozen_of_heap hW4.blk j
      obtain ⟨ao3, cp3, rfl⟩ := own_form ho3
      clear hW4 hb3 ho3 hne3
      go_wp2_with fail
      go_ret
      refine HFN.out _ _ true ⟨(heap_set (heap_set (heap_set (heap_set (heap_set HB4.out))))).trans (by rw [HFi.out]; simp), ?_, HN3.out⟩ (grown_sc (grown_sc (grown_sc (grown_sc (grown_sc HG4.out _) _) _) _) _)
      exact rd_grown HV3.out (grown_sc (grown_sc (grown_sc (grown_sc (grown_set _ ⟨b, 7, none⟩ _) _) _) _) _) HN3.out
    | false =>
      have HFi : Hid (firstAt i text = i) := Lib.hid (by unfold firstAt; rw [hpre]; rfl)
      have HW3 := HW2
      have HG3 := HG2
      have HO3 := HO
      clear hpre
      go_wp2_with fail
      clear c0 c1 c2 c3 c4 c5 c6 c7 c8 c9 c10 c11 c12 rf
      generalize w2 = X at *
      refine (cat2 X _ _ (parts text) left HO3.out HW3.out.lft hpl hl).mono ?_
      rintro e w3 ⟨v3, rfl, ho3, hb3⟩
      have hW4 := HW3.out.keep hb3
      have HB4 := Lib.hid hW4.blk
      have HG4 := Lib.hid (grown_tr HG3.out (grown_bel (row := some b) hb3))
      have hs3 : X.heap.size ≤ w3.heap.size := hb3.size
      have hbX := HW3.out.lt
      have hne3 : v3.ownBlock ≠ some b := fun e => by have := (ho3.lt _ e).1; omega
      have HV3 := Lib.hid (Rd.own ho3 (Nat.le_refl w3.heap.size))
      have HN3 := Lib.hid hne3
      obtain ⟨d0, d1, d2, d3, d4, d5, d6, d7, d8, d9, d10, d11, d12⟩ := cells13 hW4.blk
      have rg := fun j => Lib.frozen_of_heap hW4.blk j
      obtain ⟨ao3, cp3, rfl⟩ := own_form ho3
      clear hW4 hb3 ho3 hne3
      go_wp2_with fail
      go_ret
      refine HFN.out _ _ true ⟨(heap_set (heap_set (heap_set (heap_set (heap_set HB4.out))))).trans (by rw [HFi.out]; simp), ?_, HN3.out⟩ (grown_sc (grown_sc (grown_sc (grown_sc (grown_sc HG4.out _) _) _) _) _)
      exact rd_grown HV3.out (grown_sc (grown_sc (grown_sc (grown_sc (grown_set _ ⟨b, 7, none⟩ _) _) _) _) _) HN3.out
  · have hI : (checkE text != 0) = true := by rw [bne_iff_ne]; exact h0
    have H0 := Lib.hid h0
    generalize checkE text = n at *
    clear h0
    go_enter Tryd.func41, Tryd.ntmps41
    go_wp2_with fail
    refine HC.out.mono ?_
    rintro e w1 ⟨rfl, hb1⟩
    go_wp2_with fail
    go_ret
    exact .inl ⟨H0.out, rfl, grown_bel hb1⟩
def HopIs (n : Int) (b : Nat) (F : WayF) (i : Int) (left : List Str) (hops : Nat) (text : Str) (e : Ending) (w w' : World) : Prop :=
  if 8 ≤ hops then Wrong 8 b e w w' else TakeIs n b F i left (hops + 1) text e w w'
set_option maxRecDepth 100000 in
set_option maxHeartbeats 4000000 in
theorem hop_any (b : Nat) (F : WayF) (i : Int) (vl : Value) (left : List Str) (hops : Nat) (sp : SpotL) (text : Str) (w : World) (hw : WayM b F i vl left hops sp w) (hl : left.length ≤ 10000) (ht : text.length ≤ 10000) (hh : hops ≤ 8) :
    Calls Tryd.prog 70 #[.pointer (some ⟨b, 0, none⟩), .string (bs text)] w fun e w' => HopIs (checkE text) b F i left hops text e w w' := by
  have HW := Lib.hid hw
  obtain ⟨c0, c1, c2, c3, c4, c5, c6, c7, c8, c9, c10, c11, c12⟩ := cells13 hw.blk
  have rf := fun j => Lib.frozen_of_heap hw.blk j
  clear hw
  by_cases h8 : hops = 8
  · subst h8
    generalize checkE text = n at *
    go_enter Tryd.func70, Tryd.ntmps70
    go_wp2_with fail
    go_ret
    exact (show HopIs n b F i left 8 text _ _ _ by unfold HopIs; rw [if_pos (Nat.le_refl 8)]; exact ⟨by decide, rfl, grown_bel (Below.refl _ _)⟩)
  · have hI : ((hops : Int) == 8) = false := by rw [beq_eq_false_iff_ne]; omega
    have H8 := Lib.hid (show ¬ 8 ≤ hops by omega)
    have hle : (hops : Int) ≤ 8 := by omega
    have h0 : (0 : Int) ≤ (hops : Int) := by omega
    have hW1 : WayM b F i vl left (hops + 1) sp (w.setCell ⟨b, 8, none⟩ (.int .i64 ((hops : Int) + 1))) :=
      ⟨(heap_set HW.out.blk).trans (by simp), rd_grown HW.out.lft (grown_set _ _ _) HW.out.far, HW.out.far⟩
    have HT := Lib.hid (take_any b F i vl left (hops + 1) sp text _ hW1 hl ht)
    generalize checkE text = n at *
    clear h8 hW1
    go_enter Tryd.func70, Tryd.ntmps70
    go_wp2_with fail
    refine HT.out.mono ?_
    intro e w2 h
    have hg : w.grownBy (w.setCell ⟨b, 8, none⟩ (.int .i64 ((hops : Int) + 1))) (some b) := grown_set _ ⟨b, 8, none⟩ _
    rcases h with ⟨hn, rfl, hg2⟩ | ⟨rfl, vl2, rfl, hw2, hg2⟩
    · go_wp2_with fail
      go_ret
      exact (show HopIs n b F i left hops text _ _ _ by unfold HopIs; rw [if_neg H8.out]; exact .inl ⟨hn, rfl, grown_tr hg hg2⟩)
    · go_wp2_with fail
      go_ret
      exact (show HopIs 0 b F i left hops text _ _ _ by unfold HopIs; rw [if_neg H8.out]; exact .inr ⟨rfl, vl2, rfl, hw2, grown_tr hg hg2⟩)
end Go.Proofs.YtilhiafmljmljaaDoor
namespace Go.Proofs.YtilhiafmljmljaaDoor
open Go.RowKit Go.Shelf
attribute [local go_sem ↓] Go.wp_at_zero Go.wp_at_succ
theorem heap_at_new2 (w : World) (o1 o2 : Obj) : ((w.alloc o1).drew.alloc o2).heap[w.heap.size + 1]? = some o2 := by
  have := heap_alloc_new (w.alloc o1).drew o2
  simpa using this
theorem heap_at_old2 (w : World) (o1 o2 : Obj) : ((w.alloc o1).drew.alloc o2).heap[w.heap.size]? = some o1 :=
  (((Below.refl (w.heap.size + 1) (w.alloc o1).drew).alloc (by simp) o2).block w.heap.size (Nat.lt_succ_self _)).trans (heap_alloc_new w o1)
theorem rd_sets {g n size : Nat} {v : Value} {xs : List Value} {W W' : World} (h : Rd W.heap.size size v n xs W) (hs : W.heap.size ≤ W'.heap.size) (hg : ∀ k, k ≠ g → W'.heap[k]? = W.heap[k]?) (hne : v.ownBlock ≠ some g) : Rd W'.heap.size size v n xs W' := by
  obtain ⟨ao, cap, rfl, hc, hm, hz, hl, h⟩ := h
  refine ⟨ao, cap, rfl, hc, hm, hz, hl, fun hn => ?_⟩
  obtain ⟨b, off, rfl, hb, h⟩ := h hn
  have hbg : b ≠ g := fun e => hne (by rw [e]; rfl)
  refine ⟨b, off, rfl, by omega, fun j u hu => ?_⟩
  rw [World.cell?_of_block (a := ⟨b, off + j, Option.none⟩) (hg b hbg)]
  exact h j u hu
theorem getL_node (l : List NodeL) (i : Int) : getL l i = nodeL l i := by unfold getL nodeL; cases gotB l i <;> rfl
structure DskOk (ms : List NodeM) : Prop where
  len : ms.length ≤ 10000
  nms : ∀ n ∈ pl ms, n.names.length ≤ 10000
  right : RightP (pl ms)
theorem DskOk.names {ms : List NodeM} (hd : DskOk ms) (i : Int) : (nodeL (pl ms) i).names.length ≤ 10000 := by
  cases hg : gotB (pl ms) i with
  | false => unfold nodeL; rw [hg]; exact Nat.zero_le _
  | true =>
    obtain ⟨k, rfl, hlt, hn, _, _⟩ := right_ok hd.right hg
    rw [hn]; exact hd.nms _ (List.getElem_mem hlt)
def DirIs (l : List NodeL) (i : Int) (e : Ending) (w w' : World) : Prop :=
  (dirE l i ≠ 0 ∧ e = .returned (.tuple #[nval zeroN (.slice none 0 0), faultV (dirE l i)]) ∧ Below w.heap.size w w') ∨
    (dirE l i = 0 ∧ ∃ v, e = .returned (.tuple #[nval (nodeL l i) v, .nilIface]) ∧ RdNm w'.heap.size (nodeL l i, v) w' ∧ Below w.heap.size w w')
set_option maxRecDepth 100000 in
set_option maxHeartbeats 4000000 in
theorem dir_any (b : Nat) (F : WayF) (i : Int) (vl : Value) (left : List Str) (hops : Nat) (sp : SpotL) (ms : List NodeM) (w : World) (hw : WayM b F i vl left hops sp w) (hv : RdM w.heap.size F.nodes ms w) (hd : DskOk ms) :
    Calls Tryd.prog 42 #[.pointer (some ⟨b, 0, none⟩)] w fun e w' => DirIs (pl ms) i e w w' := by
  obtain ⟨aod, capd, ed, _, _⟩ := rdm_form hv
  obtain ⟨nodes, most, room, who, follow, slash⟩ := F
  dsimp only at ed hv
  subst ed
  have HV := Lib.hid hv
  have HW := Lib.hid hw
  have hbl := hw.lt
  have hS : ∀ W, Below w.heap.size w W → W.cell? ⟨b, 0, none⟩ = some (.slice aod ms.length capd) ∧ W.cell? ⟨b, 1, none⟩ = some (.int .i64 most) ∧ W.cell? ⟨b, 2, none⟩ = some (.int .i64 room) ∧ W.cell? ⟨b, 6, none⟩ = some (.int .i64 i) := fun W hb => by
    obtain ⟨c0, c1, c2, c3, c4, c5, c6, c7, c8, c9, c10, c11, c12⟩ := cells13 ((hb.block _ hbl).trans hw.blk)
    exact ⟨c0, c1, c2, c6⟩
  have HG : ∀ W, Below w.heap.size w W → Calls Tryd.prog 37 #[.agg #[.slice aod ms.length capd, .int .i64 most, .int .i64 room], .int .i64 i] W fun e w' => GetNew (pl ms) i e W w' :=
    fun W hb => get_new _ ms most room i W (rdm_keep hv hb) hd.len hd.nms
  have HGG := Lib.hid HG
  have HSS := Lib.hid hS
  clear hv hw hS HG
  have hret : ∀ (W : World) (cs : Array Value) (fr), W.heap[w.heap.size]? = some (.cells cs 44 fr) → cs.size = 8 → ∀ tmps : Array Value, tmps.getD 2 undef = .pointer (some ⟨w.heap.size, 0, none⟩) → (results Tryd.f42 tmps).run Tryd.prog W = .ok (.tuple #[.agg cs, tmps.getD 3 undef]) W := fun W cs fr h hs tmps ht =>
    results_ct (p := 2) (u := 3) (ty := 44) rfl tmps W w.heap.size _ cs fr _ ht h Tryd.underlying44 rfl (by rw [hs]; kernel_rfl)
  have HRET := Lib.hid hret
  clear hret
  go_enter Tryd.func42, Tryd.ntmps42
  go_wp2_with fail
  go_region_held3 (fun W => W.cell? ⟨b, 0, none⟩ = some (.slice aod ms.length capd) ∧ W.cell? ⟨b, 1, none⟩ = some (.int .i64 most) ∧ W.cell? ⟨b, 2, none⟩ = some (.int .i64 room) ∧ W.cell? ⟨b, 6, none⟩ = some (.int .i64 i))
    (first
      | exact HSS.out _ (by go_grown)
      | go_keep)
    (first
      | (go_at_call 37; (with_reducible refine (HGG.out _ (by go_grown)).mono ?_); intro e W4 hget; obtain ⟨v4, rfl, hr4, hb4, nw4⟩ := hget; have bw4 : Below w.heap.size w W4 := (ret_tr (w := w) (by go_grown) hb4); have sw4 := bw4.size; have hq4 := (hb4.block w.heap.size (by simp <;> omega)).trans (by first | exact heap_alloc_new w _ | exact heap_at_old2 w _ _); (try (have hz4 := (hb4.block (w.heap.size + 1) (by simp)).trans (heap_at_new2 w _ _); have zf := (fun i => Lib.frozen_of_heap hz4 i); obtain ⟨z0, z1, z2, z3, z4, z5, z6, z7⟩ := cells8 hz4)); have hf4 := Rd.form hr4; obtain ⟨ao4, cp4, ev4, _, _⟩ := hf4; have ev5 : v4 = .slice ao4 (getL (pl ms) i).names.length cp4 := ev4; subst ev5)
      | fail)
  · refine fresh1 (P := fun W => Exit.then _ _ _ _ W) ?_
    intro W5 hb5 hn5 hs5
    have bw5 : Below w.heap.size w W5 := bw4.trans (hb5.mono sw4)
    have hq5 : W5.heap[w.heap.size]? = some _ := (hb5.block _ (Array.getElem?_eq_some_iff.1 hq4).1).trans hq4
    have hr5 := Lib.hid (rdnm_keep hr4 hb5)
    have hne : (Value.slice ao4 (getL (pl ms) i).names.length cp4).ownBlock ≠ some w.heap.size := fun e => by have := nw4 _ e; simp at this; omega
    clear nw4 hq4 hb4 bw4 hb5 hr4
    rw [getL_node] at hr5 hn5 hne
    rw [getL_node]
    cases hg : gotB (pl ms) i with
    | false =>
      have HE : Hid (dirE (pl ms) i = 2) := Lib.hid (by unfold dirE; rw [hg]; rfl)
      obtain ⟨q0, q1, q2, q3, q4, q5, q6, q7⟩ := cells8 hq5
      have rf := fun j => Lib.frozen_of_heap hq5 j
      clear hg hr5
      go_wp2_with fail
      refine sets8 (P := fun W => bodyPost _ _ _ _ _ W) hq5 ?_
      intro W6 hb6 hg6 hs6 hR6
      refine bodyPost_ret (HRET.out _ _ _ hR6 rfl _ rfl) rfl ?_
      exact .inl ⟨by rw [HE.out]; decide, by rw [HE.out]; rfl, bw5.trans hb6⟩
    | true =>
      have HGot := Lib.hid hg
      clear hg
      obtain ⟨n, hn⟩ : ∃ n, n = nodeL (pl ms) i := ⟨_, rfl⟩
      rw [← hn] at hr5 hn5 hne
      have HNE := Lib.hid hne
      clear hne
      rw [← hn]
      have HN := Lib.hid hn
      clear hn
      obtain ⟨n0, n1, n2, n3, n4, n5, n6, n7⟩ := cells8 hn5
      obtain ⟨q0, q1, q2, q3, q4, q5, q6, q7⟩ := cells8 hq5
      have rf := fun j => Lib.frozen_of_heap hq5 j
      by_cases hk : n.kind = 2
      · have hI : (n.kind != 2) = false := by simpa using hk
        have HE : Hid (dirE (pl ms) i = 0) := Lib.hid (by unfold dirE; rw [HGot.out, if_pos rfl, ← HN.out, if_pos hk])
        clear hk
        go_wp2_with fail
        refine sets8 (P := fun W => bodyPost _ _ _ _ _ W) hq5 ?_
        intro W6 hb6 hg6 hs6 hR6
        refine bodyPost_ret (HRET.out _ _ _ hR6 rfl _ rfl) rfl ?_
        exact .inr ⟨HE.out, .slice ao4 n.names.length cp4, by rw [← HN.out]; rfl, by rw [← HN.out]; exact rd_sets hr5.out (by omega) hg6 HNE.out, bw5.trans hb6⟩
      · have hI : (n.kind != 2) = true := by simpa using hk
        have HE : Hid (dirE (pl ms) i = 4) := Lib.hid (by unfold dirE; rw [HGot.out, if_pos rfl, ← HN.out, if_neg hk])
        clear hk hr5
        go_wp2_with fail
        refine sets8 (P := fun W => bodyPost _ _ _ _ _ W) hq5 ?_
        intro W6 hb6 hg6 hs6 hR6
        refine bodyPost_ret (HRET.out _ _ _ hR6 rfl _ rfl) rfl ?_
        exact .inl ⟨by rw [HE.out]; decide, by rw [HE.out]; rfl, bw5.trans hb6⟩
  · refine sets8 (P := fun W => Exit.then _ _ _ _ W) hz4 ?_
    intro W5 hb5 hg5 hs5 hn5
    have bw5 : Below w.heap.size w W5 := bw4.trans (hb5.mono (by omega))
    have hq5 : W5.heap[w.heap.size]? = some _ := (hg5 _ (by omega)).trans hq4
    have hr5 := Lib.hid (rd_sets hr4 hb5.size hg5 (fun e => by have := nw4 _ e; simp at this; omega))
    have hne : (Value.slice ao4 (getL (pl ms) i).names.length cp4).ownBlock ≠ some w.heap.size := fun e => by have := nw4 _ e; simp at this; omega
    clear nw4 hq4 hb4 bw4 hb5 z0 z1 z2 z3 z4 z5 z6 z7 zf hz4
    rw [getL_node] at hr5 hn5 hne
    rw [getL_node]
    cases hg : gotB (pl ms) i with
    | false =>
      have HE : Hid (dirE (pl ms) i = 2) := Lib.hid (by unfold dirE; rw [hg]; rfl)
      obtain ⟨q0, q1, q2, q3, q4, q5, q6, q7⟩ := cells8 hq5
      have rf := fun j => Lib.frozen_of_heap hq5 j
      clear hg hr5
      go_wp2_with fail
      refine sets8 (P := fun W => bodyPost _ _ _ _ _ W) hq5 ?_
      intro W6 hb6 hg6 hs6 hR6
      refine bodyPost_ret (HRET.out _ _ _ hR6 rfl _ rfl) rfl ?_
      exact .inl ⟨by rw [HE.out]; decide, by rw [HE.out]; rfl, bw5.trans hb6⟩
    | true =>
      have HGot := Lib.hid hg
      clear hg
      obtain ⟨n, hn⟩ : ∃ n, n = nodeL (pl ms) i := ⟨_, rfl⟩
      rw [← hn] at hr5 hn5 hne
      have HNE := Lib.hid hne
      clear hne
      rw [← hn]
      have HN := Lib.hid hn
      clear hn
      obtain ⟨n0, n1, n2, n3, n4, n5, n6, n7⟩ := cells8 hn5
      obtain ⟨q0, q1, q2, q3, q4, q5, q6, q7⟩ := cells8 hq5
      have rf := fun j => Lib.frozen_of_heap hq5 j
      by_cases hk : n.kind = 2
      · have hI : (n.kind != 2) = false := by simpa using hk
        have HE : Hid (dirE (pl ms) i = 0) := Lib.hid (by unfold dirE; rw [HGot.out, if_pos rfl, ← HN.out, if_pos hk])
        clear hk
        go_wp2_with fail
        refine sets8 (P := fun W => bodyPost _ _ _ _ _ W) hq5 ?_
        intro W6 hb6 hg6 hs6 hR6
        refine bodyPost_ret (HRET.out _ _ _ hR6 rfl _ rfl) rfl ?_
        exact .inr ⟨HE.out, .slice ao4 n.names.length cp4, by rw [← HN.out]; rfl, by rw [← HN.out]; exact rd_sets hr5.out (by omega) hg6 HNE.out, bw5.trans hb6⟩
      · have hI : (n.kind != 2) = true := by simpa using hk
        have HE : Hid (dirE (pl ms) i = 4) := Lib.hid (by unfold dirE; rw [HGot.out, if_pos rfl, ← HN.out, if_neg hk])
        clear hk hr5
        go_wp2_with fail
        refine sets8 (P := fun W => bodyPost _ _ _ _ _ W) hq5 ?_
        intro W6 hb6 hg6 hs6 hR6
        refine bodyPost_ret (HRET.out _ _ _ hR6 rfl _ rfl) rfl ?_
        exact .inl ⟨by rw [HE.out]; decide, by rw [HE.out]; rfl, bw5.trans hb6⟩
end Go.Proofs.YtilhiafmljmljaaDoor
