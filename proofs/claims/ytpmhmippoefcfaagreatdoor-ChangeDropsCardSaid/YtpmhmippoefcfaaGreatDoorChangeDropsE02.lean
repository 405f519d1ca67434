/-
  The document's Set, Settle. The document's Put and Drop of entries: what they give lies in new memory.
-/
import Derived.RangeFuncNested
import Derived.RangeFuncBound
import Derived.RangeFuncCalls
import Derived.RangeFuncLeaves
import Derived.RangeFuncBox
import Derived.Shelf.Abstract
import Derived.Shelf.RegionOpen
import Derived.WalkKit
import Derived.OwnWalkIn
import Derived.TacticsInMore
import Derived.LoopNIn
import Derived.LoopIn
import Derived.Lib.Hide
import Derived.Outline
import Derived.Deep.QuietTactic
import Derived.Deep.AppendLies
import Derived.BigQuiet
import Derived.Lib.Strings
import Derived.WalkSmall
import Derived.Shelf.Small.Strs
import Derived.Shelf.Strings.Search1
import Derived.Shelf.Strings.Prefix
import Derived.Laws.AppendOwn
import Derived.Laws.OwnMore
import Derived.Laws.AppendOwnNone
import Derived.WideShapes
import Derived.Lib.TrimByte
import Derived.Lib.Bytealg
import Derived.Laws.BitsLemmas
import Derived.Laws.RangeAny
import Derived.Laws.Runes
import Derived.Lib.Builder
import Derived.Deep.WholeRow
import Derived.WalkMore
import Derived.Lib.OthersKept
import Derived.Lib.QuietBelow
import Derived.Deep.DrawnRows
import Derived.Laws.Cover1
import Derived.Shelf.SlSorted.Search
import Derived.Shelf.Spec.SlicesGrow
import Derived.StillTailTactics
import Derived.Deep.RegionHeld3
import Derived.Deep.RegionLaw
import Derived.Handy
import Derived.Laws.IdiomCopy
import Derived.Lib.SliceRun
import Derived.Laws.ResultCell
import Derived.Deep.DeepCutAuto
import Derived.Test.YtpmhmippoefcfaaGreatDoorProg
import Derived.Test.YtpmhmippoefcfaaGreatDoorShelf
import Derived.Test.YtpmhmippoefcfaaGreatDoorB01
import Derived.Test.YtpmhmippoefcfaaGreatDoorB02
import Derived.Test.YtpmhmippoefcfaaGreatDoorB04
import Derived.Test.YtpmhmippoefcfaaGreatDoorB05
import Derived.Test.YtpmhmippoefcfaaGreatDoorB06
import Derived.Test.YtpmhmippoefcfaaGreatDoorB07
import Derived.Test.YtpmhmippoefcfaaGreatDoorB09
import Derived.Test.YtpmhmippoefcfaaGreatDoorB12
import Derived.Test.YtpmhmippoefcfaaGreatDoorChangeDropsE01
namespace Go.Proofs.YtpmhmippoefcfaaGreatDoor
open Go.RowKit Go.Shelf
attribute [local go_sem ↓] Go.wp_at_zero Go.wp_at_succ
theorem post_sets3 {P : Program} {fn : Func} {Q : Ending → World → Prop} {x : Exit} {a : Act} {w : World} {b : Nat} {u0 u1 u2 r0 r1 r2 : Value} {t : TypeId} (hb : w.heap[b]? = some (.cells #[r0, r1, r2] t (0, 0)))
    (h : ∀ W', Below b w W' → (∀ g, g ≠ b → W'.heap[g]? = w.heap[g]?) → W'.heap.size = w.heap.size → W'.heap[b]? = some (.cells #[u0, u1, u2] t (0, 0)) → bodyPost P fn Q x a W') :
    bodyPost P fn Q x a (((w.setCell ⟨b, 0, none⟩ u0).setCell ⟨b, 1, none⟩ u1).setCell ⟨b, 2, none⟩ u2) := sets3 (P := fun W => bodyPost P fn Q x a W) hb h
theorem infoNodeR : (Tryz.prog.info? 74).map (fun i => (i.zero, i.size, i.bytes)) = some (some (.agg #[.int .i64 0, .int .i64 0, .int .i64 0, .int .i64 0, .int .i64 0, .int .i64 0, .string ⟨#[]⟩, .slice none 0 0]), 8, 88) := by kernel_rfl
/-- What the document's Set tells; it lies in no old block that what came in does not lie in. -/
def RSetIs (v vn : Value) (ms : List NodeM) (most room i : Int) (n : NodeL) (e : Ending) (w w' : World) : Prop :=
  ∃ v' ms', e = .returned (.agg #[v', .int .i64 most, .int .i64 room]) ∧ pl ms' = setL (pl ms) i n ∧ RdM w'.heap.size v' ms' w' ∧ Below w.heap.size w w' ∧ ∀ g, g < w.heap.size → AvoidM g v ms → Avoid g vn → AvoidM g v' ms'
set_option maxRecDepth 100000 in
set_option maxHeartbeats 4000000 in
theorem rset_any (v : Value) (ms : List NodeM) (most room i : Int) (n : NodeL) (vn : Value) (w : World) (hv : RdM w.heap.size v ms w) (hl : ms.length ≤ 10000) (hn : RdNm w.heap.size (n, vn) w) :
    Calls Tryz.prog 54 #[.agg #[v, .int .i64 most, .int .i64 room], .int .i64 i, nval n vn] w fun e w' => RSetIs v vn ms most room i n e w w' := by
  obtain ⟨ao, cap, rfl, _, _⟩ := rdm_form hv
  obtain ⟨aon, capn, e, _, _⟩ := Rd.form hn
  have e' : vn = .slice aon n.names.length capn := e
  subst e'
  have HV := Lib.hid hv
  have HN := Lib.hid hn
  clear hv hn e
  have hret : ∀ (W : World) (cs : Array Value) (fr), W.heap[w.heap.size + 2]? = some (.cells cs 32 fr) → cs.size = 3 → ∀ tmps : Array Value, tmps.getD 6 undef = .pointer (some ⟨w.heap.size + 2, 0, none⟩) → (results Tryz.f54 tmps).run Tryz.prog W = .ok (.agg cs) W := fun W cs fr h hs tmps ht =>
    results_cell_row (p := 6) (ty := 32) rfl tmps W (w.heap.size + 2) _ cs fr _ ht h Tryz.underlying32 rfl (by rw [hs]; kernel_rfl)
  have no : inL (pl ms) i = false → (decide (i < 0) = true ∨ (decide (i < 0) = false ∧ decide ((ms.length : Int) ≤ i) = true)) := fun h => by
    unfold inL at h
    rw [pl_len] at h
    by_cases h0 : i < 0
    · exact .inl (decide_eq_true h0)
    · refine .inr ⟨decide_eq_false h0, decide_eq_true ?_⟩
      rw [decide_eq_true (by omega), Bool.true_and, decide_eq_false_iff_not] at h
      omega
  cases hi : inL (pl ms) i with
  | false =>
    have HS : Hid (pl ms = setL (pl ms) i n) := Lib.hid (by unfold setL; rw [hi]; rfl)
    rcases no hi with g0 | ⟨g0, g1⟩
    all_goals
      clear hi
      go_enter Tryz.func54, Tryz.ntmps54
      go_upto_region 1 with (fail)
      refine code_fresh3 ?_
      intro W0 hb0 hP hQ hR hs0
      obtain ⟨p0, p1, p2⟩ := cells3 hP
      obtain ⟨q0, q1, q2⟩ := cells3 hR
      have rf := fun j => Lib.frozen_of_heap hR j
      go_wp2_with fail
      refine post_sets3 hR ?_
      intro W3 hb3 hg3 hs3 hR3
      refine bodyPost_ret (hret _ _ _ hR3 rfl _ rfl) rfl ?_
      have hB3 := hb0.trans (hb3.mono (by omega))
      exact ⟨_, ms, rfl, HS.out, rdm_keep HV.out hB3, hB3, fun _ _ h _ => h⟩
  | true =>
    obtain ⟨k, rfl, hk⟩ := in_nat hi
    rw [pl_len] at hk
    have HS : Hid ((pl ms).set k n = setL (pl ms) (k : Int) n) := Lib.hid (by unfold setL; rw [hi]; rfl)
    have g0 : decide ((k : Int) < 0) = false := decide_eq_false (by omega)
    have g1 : decide (ms.length ≤ k) = false := decide_eq_false (by omega)
    have k0 : (0 : Int) ≤ (k : Int) := by omega
    have k1 : (k : Int) < (ms.length : Int) := by omega
    obtain ⟨i0, hi0, hz0, hz1, hz2⟩ := info_parts infoNodeR
    clear hi
    go_enter Tryz.func54, Tryz.ntmps54
    go_upto_region 1 with (fail)
    refine code_fresh3 ?_
    intro W0 hb0 hP hQ hR hs0
    obtain ⟨p0, p1, p2⟩ := cells3 hP
    have HV0 := Lib.hid ((rdm_keep HV.out hb0).1)
    have HO := Lib.hid (cellsN_one HV.out.one)
    have hba : Below W0.heap.size W0 (W0.alloc (.cells #[] 74)) := (Below.refl _ W0).alloc (Nat.le_refl _) _
    have HV1 := Lib.hid (HV0.out.below hba)
    have hown0 : (W0.alloc (.cells #[] 74)).ownsRow (w.heap.size + 3) 74 8 (.slice (some ⟨w.heap.size + 3, 0, none⟩) 0 0) 0 [] := by
      have := World.ownsRow_lit (e := 74) (size := 8) W0 #[] 0 (Nat.le_refl _) (Nat.zero_le _) rfl
      rw [hs0] at this
      exact this
    have hsA : (w.heap.size + 3) ≤ (W0.alloc (.cells #[] 74)).heap.size := by simp; omega
    go_wp2_with (at_builtin; go_loud (refine wpList_append_rd rfl (.tmp 18) (.tmp 20) 30 rfl (w.heap.size + 3) 74 i0 _ 8 88 Tryz.underlying30 hi0 hz0 hz1 hz2 rfl (by decide) _ 0 [] rfl hown0 W0.heap.size _ ms.length (cellsN ms) rfl HV1.out HO.out (by unfold maxLen; omega) (by omega) hsA ?_))
    intro v3 w3 ho3 hgr3
    have hB3 : Below W0.heap.size W0 w3 := hba.grown hgr3 (by simp) (fun j ej => by simp [Value.ownBlock] at ej; omega)
    have hs3 := hB3.size
    have hP3 := (hB3.block _ (by omega)).trans hP
    have hQ3 := (hB3.block _ (by omega)).trans hQ
    have hR3 := (hB3.block _ (by omega)).trans hR
    have HB3 := Lib.hid (ret_tr hb0 hB3)
    obtain ⟨g, cap3, cur, rfl, hg0, hheap, -, -, -, -⟩ := ho3.2.resolve_left (fun h => by have := h.2; omega)
    have hgn : g < w3.heap.size := (Array.getElem?_eq_some_iff.1 hheap).1
    have HRo : Hid (Rd w3.heap.size 8 (.slice (some ⟨g, 0, none⟩) ms.length cap3) ms.length (cellsN ms) w3) := Lib.hid (Rd.own ho3 (Nat.le_refl _))
    have HR3 := Lib.hid hR3
    have HP3 := Lib.hid hP3
    obtain ⟨d0, d1, d2, d3, d4, d5, d6, d7⟩ := cells8 hQ3
    obtain ⟨s0, s1, s2, s3, s4, s5, s6, s7⟩ := eight0 HRo.out k hk
    have hf3 := fun j => Lib.frozen_of_heap hheap j
    have hR3' := hR3
    obtain ⟨q0, q1, q2⟩ := cells3 hR3'
    clear p0 p1 p2
    obtain ⟨p0, p1, p2⟩ := cells3 hP3
    clear hP3 hQ3 hR3 hR3' hheap ho3 hP hQ hR hba hB3 hgr3
    go_upto_region 5 with (fail)
    refine sets8o (P := fun W => Code.wp _ _ _ _ W) ?_
    intro W5 e5
    have hm3 : RdM w3.heap.size (.slice (some ⟨g, 0, none⟩) ms.length cap3) ms w3 := ⟨HRo.out, (rdm_keep HV.out HB3.out).2⟩
    have hn3 : RdNm w3.heap.size (n, .slice aon n.names.length capn) w3 := rdnm_keep HN.out HB3.out
    have hm5 : RdM w3.heap.size (.slice (some ⟨g, 0, none⟩) ms.length cap3) (ms.set k (n, .slice aon n.names.length capn)) W5 := by
      rw [e5]
      exact setM _ hm3 hk hn3 (fun x hx => rd_far (HV.out.2 x hx) (by omega)) (rd_far HN.out (by omega))
    have hs5 : W5.heap.size = w3.heap.size := by rw [e5, size_setCells]
    have hP5 := (show W5.heap[w.heap.size]? = w3.heap[w.heap.size]? by rw [e5, heap_setCells _ _ (by omega)]).trans HP3.out
    have hR5 := (show W5.heap[w.heap.size + 2]? = w3.heap[w.heap.size + 2]? by rw [e5, heap_setCells _ _ (by omega)]).trans HR3.out
    have hB5 : Below w.heap.size w W5 := by rw [e5]; exact HB3.out.trans (below_setCells _ _ (by omega) _ _ _)
    clear e5 hf3 s0 s1 s2 s3 s4 s5 s6 s7 d0 d1 d2 d3 d4 d5 d6 d7 p0 p1 p2 q0 q1 q2
    obtain ⟨p0, p1, p2⟩ := cells3 hP5
    obtain ⟨q0, q1, q2⟩ := cells3 hR5
    have rf := fun j => Lib.frozen_of_heap hR5 j
    go_wp2_with fail
    refine post_sets3 hR5 ?_
    intro W6 hb6 hg6 hs6 hR6
    refine bodyPost_ret (hret _ _ _ hR6 rfl _ rfl) rfl ?_
    have gx : g ≠ w.heap.size + 2 := by omega
    refine ⟨_, ms.set k (n, .slice aon n.names.length capn), rfl, (pl_set ms k (n, .slice aon n.names.length capn)).trans HS.out, ?_, hB5.trans (hb6.mono (by omega)), fun q hq hav havn => ⟨by intro a n' c e _; injection e with e _ _; injection e with e; rw [← e]; show g ≠ q; omega, fun x hx => ?_⟩⟩
    rotate_left
    · rcases List.mem_or_eq_of_mem_set hx with hx | rfl
      · exact hav.2 x hx
      · exact havn
    have hne : ∀ x ∈ ms.set k (n, .slice aon n.names.length capn), Avoid (w.heap.size + 2) x.2 := fun x hx => by
      rcases List.mem_or_eq_of_mem_set hx with hx | rfl
      · exact rd_far (HV.out.2 x hx) (by omega)
      · exact rd_far HN.out (by omega)
    rw [hs6, hs5]
    exact rdm_other (g := w.heap.size + 2) hm5 (by intro a n' c e _; injection e with e _ _; injection e with e; rw [← e]; exact gx) hne hg6
theorem rset_g (X : Nat → Prop) (l : List NodeL) (most room i : Int) (n : NodeL) (v vn : Value) (W : World) (hX : Old X W) (hg : GivesX X l v W) (hl : l.length ≤ 10000) (hn : NodeX X n vn W) :
    Calls Tryz.prog 54 #[.agg #[v, .int .i64 most, .int .i64 room], .int .i64 i, nval n vn] W fun e w' => RDiskIs X (setL l i n) most room e W w' := by
  obtain ⟨m, rfl, h, ha⟩ := hg
  refine (rset_any v m most room i n vn W h (by rw [← pl_len]; exact hl) hn.1).mono ?_
  rintro e w' ⟨v', ms', rfl, hp, hg', hb, hav⟩
  have hG : GivesX X (setL (pl m) i n) v' w' := ⟨ms', hp, hg', fun g hx => hav g (hX g hx) (ha g hx) (hn.2 g hx)⟩
  obtain ⟨ao, cap, rfl⟩ := gives_form hG
  exact ⟨ao, cap, rfl, hG, hb⟩
/-- What the document's Get tells; the names lie where the disk's lie. -/
def RGetX (v : Value) (ms : List NodeM) (i : Int) (e : Ending) (W W' : World) : Prop :=
  ∃ vn, e = .returned (.tuple #[nval (getL (pl ms) i) vn, .bool (gotB (pl ms) i)]) ∧ RdNm W'.heap.size (getL (pl ms) i, vn) W' ∧ Below W.heap.size W W' ∧ ∀ g, AvoidM g v ms → Avoid g vn
theorem getx_no {v : Value} {ms : List NodeM} {i : Int} {w W : World} (h : gotB (pl ms) i = false) (hb : Below w.heap.size w W) : RGetX v ms i (.returned (.tuple #[.agg #[.int .i64 0, .int .i64 0, .int .i64 0, .int .i64 0, .int .i64 0, .int .i64 0, .string ⟨#[]⟩, .slice none 0 0], .bool false])) w W :=
  ⟨.slice none 0 0, by unfold getL; rw [h]; rfl, by unfold getL; rw [h]; exact Rd.none0 _ _ _, hb, fun g _ a n c e _ => by cases e⟩
set_option maxRecDepth 100000 in
set_option maxHeartbeats 2000000 in
theorem rgetx_any (v : Value) (ms : List NodeM) (most room i : Int) (w : World) (hv : RdM w.heap.size v ms w) (hl : ms.length ≤ 10000) :
    Calls Tryz.prog 51 #[.agg #[v, .int .i64 most, .int .i64 room], .int .i64 i] w fun e w' => RGetX v ms i e w w' := by
  obtain ⟨ao, cap, rfl, _, _⟩ := rdm_form hv
  have HV := Lib.hid hv
  have HL := Lib.hid hl
  clear hv
  have hret : ∀ (W : World) (cs : Array Value) (fr), W.heap[w.heap.size + 1]? = some (.cells cs 74 fr) → cs.size = 8 → ∀ tmps : Array Value, tmps.getD 4 undef = .pointer (some ⟨w.heap.size + 1, 0, none⟩) → (results Tryz.f51 tmps).run Tryz.prog W = .ok (.tuple #[.agg cs, tmps.getD 5 undef]) W := fun W cs fr h hs tmps ht =>
    results_ct (p := 4) (u := 5) (ty := 74) rfl tmps W (w.heap.size + 1) _ cs fr _ ht h Tryz.underlying74 rfl (by rw [hs]; kernel_rfl)
  have no : ∀ W : World, gotB (pl ms) i = false → Below w.heap.size w W → RGetX (.slice ao ms.length cap) ms i (.returned (.tuple #[.agg #[.int .i64 0, .int .i64 0, .int .i64 0, .int .i64 0, .int .i64 0, .int .i64 0, .string ⟨#[]⟩, .slice none 0 0], .bool false])) w W := fun _ h hb => getx_no h hb
  have HNO := Lib.hid no
  clear no
  by_cases h1 : i < 0
  · have hI : decide (i < 0) = true := by simpa using h1
    have HG : Hid (gotB (pl ms) i = false) := Lib.hid (by unfold gotB inL; rw [show decide (0 ≤ i) = false by simp; omega]; rfl)
    clear h1
    go_enter Tryz.func51, Tryz.ntmps51
    go_wp2_with fail
    refine fresh2 (P := fun W => bodyPost _ _ _ _ _ W) ?_
    intro W0 hb0 hP hQ hs0
    refine bodyPost_ret (hret _ _ _ hQ rfl _ rfl) rfl ?_
    exact HNO.out _ HG.out hb0
  have g1 : decide (i < 0) = false := by simpa using h1
  by_cases h2 : (ms.length : Int) ≤ i
  · have hI : decide ((ms.length : Int) ≤ i) = true := by simpa using h2
    have HG : Hid (gotB (pl ms) i = false) := Lib.hid (by unfold gotB inL; rw [show decide (i < (pl ms).length) = false by rw [pl_len]; simpa using h2]; simp)
    clear h1 h2
    go_enter Tryz.func51, Tryz.ntmps51
    go_wp2_with fail
    refine fresh2 (P := fun W => bodyPost _ _ _ _ _ W) ?_
    intro W0 hb0 hP hQ hs0
    refine bodyPost_ret (hret _ _ _ hQ rfl _ rfl) rfl ?_
    exact HNO.out _ HG.out hb0
  have g2 : decide ((ms.length : Int) ≤ i) = false := by simpa using h2
  obtain ⟨k, rfl, hk⟩ : ∃ k : Nat, i = k ∧ k < ms.length := ⟨i.toNat, by omega, by omega⟩
  have hin := nat_in (l := pl ms) (k := k) (by rw [pl_len]; exact hk)
  have hat := at_nat (pl ms) k (by rw [pl_len]; exact hk)
  have k0 : (0 : Int) ≤ (k : Int) := by omega
  have k1 : (k : Int) < (ms.length : Int) := by omega
  obtain ⟨b, off, n, aon, capn, rfl, hb, hn, hmk, hrn, c0, c1, c2, c3, c4, c5, c6, c7⟩ := node_at HV.out k hk
  rw [hn] at hat
  by_cases h0 : n.kind = 0
  · have hd : (n.kind == 0) = true := by simpa using h0
    have HG : Hid (gotB (pl ms) k = false) := Lib.hid (by unfold gotB; rw [hat]; simp [h0])
    clear h0 h1 h2 hin hat hn hrn
    try clear hmk
    go_enter Tryz.func51, Tryz.ntmps51
    go_wp2_with fail
    refine fresh2 (P := fun W => bodyPost _ _ _ _ _ W) ?_
    intro W0 hb0 hP hQ hs0
    refine bodyPost_ret (hret _ _ _ hQ rfl _ rfl) rfl ?_
    exact HNO.out _ HG.out hb0
  · have hd : (n.kind == 0) = false := by simpa using h0
    have HG : Hid (gotB (pl ms) k = true) := Lib.hid (by unfold gotB; rw [hat, hin]; simp [h0])
    have HGe : Hid (getL (pl ms) k = n) := Lib.hid (by unfold getL; rw [HG.out, hat]; rfl)
    have HR := Lib.hid hrn
    have HA : Hid (∀ g, AvoidM g (.slice (some ⟨b, off, none⟩) ms.length cap) ms → Avoid g (.slice aon n.names.length capn)) := Lib.hid fun g hg => by have := hg.2 _ (List.getElem_mem hk); rw [hmk] at this; exact this
    clear hmk
    clear h0 h1 h2 hin hat hn hrn
    try clear hmk
    go_enter Tryz.func51, Tryz.ntmps51
    go_wp2_with fail
    refine fresh2 (P := fun W => bodyPost _ _ _ _ _ W) ?_
    intro W0 hb0 hP hQ hs0
    refine bodyPost_ret (hret _ _ _ hQ rfl _ rfl) rfl ?_
    exact ⟨.slice aon n.names.length capn, by rw [HGe.out, HG.out]; rfl, by rw [HGe.out]; exact rd_keep HR.out hb0, hb0, HA.out⟩
theorem rget_g (X : Nat → Prop) (l : List NodeL) (most room i : Int) (v : Value) (W : World) (hg : GivesX X l v W) (hl : l.length ≤ 10000) :
    Calls Tryz.prog 51 #[.agg #[v, .int .i64 most, .int .i64 room], .int .i64 i] W fun e w' => ∃ ao cap, e = .returned (.tuple #[nval (nodeL l i) (.slice ao (nodeL l i).names.length cap), .bool (gotB l i)]) ∧ NodeX X (nodeL l i) (.slice ao (nodeL l i).names.length cap) w' ∧ Below W.heap.size W w' := by
  obtain ⟨m, rfl, h, ha⟩ := hg
  refine (rgetx_any v m most room i W h (by rw [← pl_len]; exact hl)).mono ?_
  rintro e w' ⟨v1, rfl, hr, hb, hav⟩
  have hgl : getL (pl m) i = nodeL (pl m) i := by unfold getL nodeL; cases gotB (pl m) i <;> rfl
  rw [hgl] at hr ⊢
  have hN : NodeX X (nodeL (pl m) i) v1 w' := ⟨hr, fun g hx => hav g (ha g hx)⟩
  obtain ⟨ao, cap, rfl⟩ := node_form hN
  exact ⟨ao, cap, rfl, hN, hb⟩
set_option maxRecDepth 100000 in
set_option maxHeartbeats 4000000 in
theorem rsettle_g (X : Nat → Prop) (l : List NodeL) (most room i : Int) (v : Value) (w : World) (hX : Old X w) (hg : GivesX X l v w) (hl : l.length ≤ 10000) :
    Calls Tryz.prog 95 #[.agg #[v, .int .i64 most, .int .i64 room], .int .i64 i] w fun e w' => RDiskIs X (settleL l i) most room e w w' := by
  obtain ⟨aov, capv, rfl⟩ := gives_form hg
  have HG := Lib.hid hg
  have HX := Lib.hid hX
  have hret : ∀ (W : World) (cs : Array Value) (fr), W.heap[w.heap.size + 1]? = some (.cells cs 32 fr) → cs.size = 3 → ∀ tmps : Array Value, tmps.getD 4 undef = .pointer (some ⟨w.heap.size + 1, 0, none⟩) → (results Tryz.f95 tmps).run Tryz.prog W = .ok (.agg cs) W := fun W cs fr h hs tmps ht =>
    results_cell_row (p := 4) (ty := 32) rfl tmps W (w.heap.size + 1) _ cs fr _ ht h Tryz.underlying32 rfl (by rw [hs]; kernel_rfl)
  have HRET := Lib.hid hret
  clear hg hX hret
  go_enter Tryz.func95, Tryz.ntmps95
  go_upto_region 1 with (fail)
  refine code_fresh2 ?_
  intro W0 hb0 hP hR hs0
  obtain ⟨p0, p1, p2⟩ := cells3 hP
  go_wp2_with fail
  refine (rget_g X l most room i _ W0 (HG.out.keep hb0) hl).mono ?_
  rintro e W1 ⟨ao1, cp1, rfl, hr1, hb1⟩
  have hs1 := hb1.size
  have HB1 := Lib.hid (ret_tr hb0 hb1)
  have HP1 := Lib.hid ((hb1.block _ (by omega)).trans hP)
  have HR1 := Lib.hid ((hb1.block _ (by omega)).trans hR)
  have HS : Hid (∀ b, b = gotB l i → settleL l i = if b = true ∧ i ≠ 0 ∧ (nodeL l i).links ≤ 0 ∧ (nodeL l i).opn ≤ 0 then setL l i zeroN else l) := Lib.hid fun b hb => by subst hb; rfl
  generalize hgb : gotB l i = gb at *
  generalize nodeL l i = n at *
  clear p0 p1 p2 hb0 hb1 hP hR hr1
  go_upto_region 2 with (fail)
  refine code_fresh1 ?_
  intro W2 hb2 hn2 hs2
  have HB2 := Lib.hid (ret_tr HB1.out hb2)
  have HP2 := Lib.hid ((hb2.block _ (by omega)).trans HP1.out)
  have hR2 := (hb2.block _ (by omega)).trans HR1.out
  have HR2 := Lib.hid hR2
  obtain ⟨n0, n1, n2, n3, n4, n5, n6, n7⟩ := cells8 hn2
  obtain ⟨p0, p1, p2⟩ := cells3 HP2.out
  obtain ⟨q0, q1, q2⟩ := cells3 hR2
  have rf := fun j => Lib.frozen_of_heap hR2 j
  clear hn2 hb2 hR2
  by_cases hc : gb = true ∧ i ≠ 0 ∧ n.links ≤ 0 ∧ n.opn ≤ 0
  · have HS2 : Hid (settleL l i = setL l i zeroN) := Lib.hid ((HS.out gb rfl).trans (if_pos hc))
    obtain ⟨rfl, h1, h2, h3⟩ := hc
    have i1 : (i == 0) = false := by simpa using h1
    have i2 : decide (0 < n.links) = false := decide_eq_false (by omega)
    have i3 : decide (0 < n.opn) = false := decide_eq_false (by omega)
    clear h1 h2 h3
    go_wp2_with fail
    refine (rset_g (fun g => X g ∨ g = w.heap.size + 1) l most room i zeroN _ (.slice none 0 0) W2 (fun g hg => hg.elim (fun h => Nat.lt_of_lt_of_le (HX.out g h) (by omega)) (fun h => by omega)) (HG.out.add HB2.out fun g hg => hg.imp id (fun h => by omega)) hl (NodeX.zero _ _)).mono ?_
    rintro e W3 ⟨ao3, cap3, rfl, hg3, hb3⟩
    have hR3 := (hb3.block _ (show w.heap.size + 1 < W2.heap.size by omega)).trans HR2.out
    have hB3 := ret_tr HB2.out hb3
    clear q0 q1 q2 rf p0 p1 p2 n0 n1 n2 n3 n4 n5 n6 n7
    obtain ⟨q0, q1, q2⟩ := cells3 hR3
    have rf := fun j => Lib.frozen_of_heap hR3 j
    go_wp2_with fail
    refine post_sets3 hR3 ?_
    intro W4 hb4 hg4 hs4 hR4
    refine bodyPost_ret (HRET.out _ _ _ hR4 rfl _ rfl) rfl ?_
    rw [HS2.out]
    exact ⟨_, _, rfl, (hg3.other (.inr rfl) hs4 hg4).sub fun g h => .inl h, hB3.trans (hb4.mono (by omega))⟩
  · have HS2 : Hid (settleL l i = l) := Lib.hid ((HS.out gb rfl).trans (if_neg hc))
    have hT : gb = false ∨ (gb = true ∧ ((i == 0) = true ∨ ((i == 0) = false ∧ (decide (0 < n.links) = true ∨ (decide (0 < n.links) = false ∧ decide (0 < n.opn) = true))))) := by
      cases gb
      · exact .inl rfl
      · refine .inr ⟨rfl, ?_⟩
        by_cases h1 : i = 0
        · exact .inl (by simpa using h1)
        · refine .inr ⟨by simpa using h1, ?_⟩
          by_cases h2 : 0 < n.links
          · exact .inl (decide_eq_true h2)
          · refine .inr ⟨decide_eq_false h2, decide_eq_true ?_⟩
            exact Int.lt_of_not_ge fun h3 => hc ⟨rfl, h1, by omega, h3⟩
    clear hc
    rcases hT with rfl | ⟨rfl, i1 | ⟨i1, i2 | ⟨i2, i3⟩⟩⟩
    all_goals
      go_wp2_with fail
      refine post_sets3 HR2.out ?_
      intro W4 hb4 hg4 hs4 hR4
      refine bodyPost_ret (HRET.out _ _ _ hR4 rfl _ rfl) rfl ?_
      rw [HS2.out]
      exact ⟨_, _, rfl, HG.out.keep (HB2.out.trans (hb4.mono (by omega))), HB2.out.trans (hb4.mono (by omega))⟩
end Go.Proofs.YtpmhmippoefcfaaGreatDoor
namespace Go.Proofs.YtpmhmippoefcfaaGreatDoor
open Go.RowKit Go.Shelf
attribute [local go_sem ↓] Go.wp_at_zero Go.wp_at_succ
set_option maxRecDepth 100000 in
set_option maxHeartbeats 1000000 in
theorem rdropN_any (B : Nat) (v : Value) (l : List EntL) (n : Nm) (w : World) (hv : Rd B 2 v l.length (ents l) w) (hB : B ≤ w.heap.size) (hl : l.length ≤ 10000) :
    Calls Tryz.prog 69 #[v, .string (bs n)] w fun e w' => GivesEN (dropL l n) e w w' := by
  obtain ⟨ao, cap, rfl, _, _⟩ := hv.form
  obtain ⟨i0, hi, hz0, hz1, hz2⟩ := info_parts infoREnt
  have HV := Lib.hid hv
  clear hv
  go_enter Tryz.func69, Tryz.ntmps69
  go_wp2_with fail
  go_loopw [5, 6] (fun o i wr => ∃ k : Nat, i = .int .i64 k ∧ k ≤ l.length ∧ wr.ownsRow w.heap.size 130 2 o (dropL (l.take k) n).length (ents (dropL (l.take k) n)) ∧ Below w.heap.size w wr) (fun _ i _ => l.length - (intOf i).toNat)
  case atStart => exact ⟨0, rfl, Nat.zero_le _, World.ownsRow_lit (size := 2) w #[] 0 (Nat.le_refl _) (Nat.zero_le _) rfl, (Below.refl _ _).alloc (Nat.le_refl _) _⟩
  case round =>
    obtain ⟨k, rfl, hk, hown, hBr⟩ := hrel
    by_cases hlt : k < l.length
    · obtain ⟨b, off, cap', e, hn, hm, hb, hlen, hc⟩ := HV.out.at (by omega)
      injection e with e1 _ e2
      subst e1
      subst e2
      have hc0 := (hBr.cell (p := ⟨b, off + k * 2, none⟩) (by show b < _; omega)).trans (hc _ _ (ents_at0 l k hlt))
      have hc1 : wr.cell? ⟨b, off + k * 2 + 1, none⟩ = _ := (hBr.cell (p := ⟨b, off + k * 2 + 1, none⟩) (by show b < _; omega)).trans (hc (k * 2 + 1) _ (ents_at1 l k hlt))
      have sB := hBr.size
      have hdl : (dropL (l.take k) n).length ≤ 10000 := by
        have := List.length_filter_le (fun e : EntL => !(e.1 == n)) (l.take k)
        rw [List.length_take] at this
        unfold dropL
        omega
      clear hc
      by_cases hq : (l[k]).1 = n
      · have hI : ((l[k]).1 == n) = true := by rw [beq_iff_eq]; exact hq
        have HD : Hid (dropL (l.take (k + 1)) n = dropL (l.take k) n) := Lib.hid (filter_take_no l _ k hlt (by simp [hq]))
        clear hq
        go_wp2_with fail
        go_roundw
        case rel => exact ⟨k + 1, by go_num, hlt, by rw [HD.out]; exact hown, hBr⟩
        case measure => simp [intOf]; omega
      · have hI := beq_list_false hq
        have HD : Hid (dropL (l.take (k + 1)) n = dropL (l.take k) n ++ [l[k]]) := Lib.hid (filter_take_yes l _ k hlt (by simpa using hq))
        have ht : Hid (ents (dropL (l.take (k + 1)) n) = ents (dropL (l.take k) n) ++ [.string (bs (l[k]).1), .int .i64 (l[k]).2]) := Lib.hid (by rw [HD.out, ents_app]; rfl)
        have hlen2 : Hid ((dropL (l.take (k + 1)) n).length = (dropL (l.take k) n).length + 1) := Lib.hid (by rw [HD.out]; simp)
        clear hq
        generalize (dropL (l.take k) n).length = dk at *
        go_wp2_with (at_builtin; refine wpList_append_own _ rfl (.tmp 21) (.tmp 26) 72 rfl w.heap.size 130 i0 _ 2 24 Tryz.underlying72 hi hz0 hz1 hz2 rfl (by decide) _ dk _ rfl (hown.alloc _) ⟨wr.heap.size, 0, none⟩ 1 1 [.string (bs (l[k]).1), .int .i64 (l[k]).2] rfl rfl (World.news_of_block (cs := #[.string (bs (l[k]).1), .int .i64 (l[k]).2]) (t := 130) (fr := (0, 0)) (heap_alloc_new wr _)) (by simp [Value.oneCell']) (by unfold maxLen; omega) (by omega) (by simp; omega) ?_)
        intro v3 w3 ho3 hgr3 _
        have hB3 := below_appended (Nat.le_refl _) hBr hown hgr3
        rw [← ht.out, ← hlen2.out] at ho3
        go_wp2
        go_roundw
        case rel => exact ⟨k + 1, by go_num, hlt, ho3, hB3⟩
        case measure => simp [intOf]; omega
    · have hke : k = l.length := by omega
      have HT : Hid (l.take k = l) := Lib.hid (by rw [hke, List.take_length])
      have hge : l.length ≤ k := by omega
      clear hke hlt
      go_wp2_with fail
      go_ret
      refine ⟨_, rfl, ?_, hBr, NewV.own hown⟩
      have := Rd.own hown (Nat.le_refl _)
      rw [HT.out] at this
      exact this
set_option maxRecDepth 100000 in
set_option maxHeartbeats 4000000 in
theorem rputN_any (B : Nat) (v : Value) (l : List EntL) (n : Nm) (z : Int) (w : World) (hv : Rd B 2 v l.length (ents l) w) (hB : B ≤ w.heap.size) (hl : l.length ≤ 10000) :
    Calls Tryz.prog 92 #[v, .agg #[.string (bs n), .int .i64 z]] w fun e w' => GivesEN (putL l (n, z)) e w w' := by
  obtain ⟨ao, cap, rfl, _, _⟩ := hv.form
  obtain ⟨i0, hi0, hz0, hz1, hz2⟩ := info_parts infoREnt
  have HV := Lib.hid hv
  clear hv
  go_enter Tryz.func92, Tryz.ntmps92
  go_wp2_with fail
  have hb0 : Below w.heap.size w (w.alloc (.cells #[.string (bs n), .int .i64 z] 130)) := (Below.refl _ w).alloc (Nat.le_refl _) _
  have hbF := heap_alloc_new w (.cells #[.string (bs n), .int .i64 z] 130)
  have hf0 : w.heap.size < (w.alloc (.cells #[.string (bs n), .int .i64 z] 130)).heap.size := by simp
  have HV0 := Lib.hid (HV.out.below (hb0.mono hB))
  generalize hnf : w.heap.size = nf at *
  generalize w.alloc (.cells #[.string (bs n), .int .i64 z] 130) = W0 at *
  refine (rdrop_any B _ l n _ HV0.out (by omega) hl).mono ?_
  rintro e w1 ⟨vr, rfl, hr, hb1⟩
  obtain ⟨aor, capr, rfl, _, _⟩ := hr.form
  have s1 := hb1.size
  have hbF1 := (hb1.block nf hf0).trans hbF
  have HB1 := Lib.hid (hb0.trans (hb1.mono (by omega)))
  have HE : Hid (lo (dropL l n) n ++ (n, z) :: hi (dropL l n) n = putL l (n, z)) := Lib.hid (by
    show (dropL l n).filter _ ++ (n, z) :: (dropL l n).filter _ = _
    rw [put_lo, put_hi]; rfl)
  have hRl : (dropL l n).length ≤ 10000 := by have := drop_len l n; omega
  generalize dropL l n = R at *
  have HR := Lib.hid hr
  clear hr hbF hb0 hb1
  go_wp2_with fail
  go_loopw [6, 7] (fun o i wr => ∃ k : Nat, i = .int .i64 k ∧ k ≤ R.length ∧ wr.ownsRow w1.heap.size 130 2 o (lo (R.take k) n).length (ents (lo (R.take k) n)) ∧ Below w1.heap.size w1 wr) (fun _ i _ => R.length - (intOf i).toNat)
  case atStart => exact ⟨0, rfl, Nat.zero_le _, World.ownsRow_lit (size := 2) w1 #[] 0 (Nat.le_refl _) (Nat.zero_le _) rfl, (Below.refl _ _).alloc (Nat.le_refl _) _⟩
  case round =>
    obtain ⟨k, rfl, hk, hown, hBr⟩ := hrel
    have sB := hBr.size
    have hbF2 := (hBr.block nf (by omega)).trans hbF1
    have ce0 : wr.cell? ⟨nf, 0, none⟩ = some (.string (bs n)) := by rw [Lib.cell_of_heap hbF2]; rfl
    have hll := lo_take_len R n k
    by_cases hlt : k < R.length
    · obtain ⟨b, off, cap', e, hn, hm, hb, hlen, hc⟩ := HR.out.at (by omega)
      injection e with e1 _ e2
      subst e1
      subst e2
      have hc0 := (hBr.cell (p := ⟨b, off + k * 2, none⟩) (by show b < _; omega)).trans (hc _ _ (ents_at0 R k hlt))
      have hc1 : wr.cell? ⟨b, off + k * 2 + 1, none⟩ = _ := (hBr.cell (p := ⟨b, off + k * 2 + 1, none⟩) (by show b < _; omega)).trans (hc (k * 2 + 1) _ (ents_at1 R k hlt))
      have k0 : (0 : Int) ≤ (k : Int) := by omega
      have k1 : (k : Int) < (R.length : Int) := by omega
      clear hc hbF2
      by_cases hq : (R[k]).1 < n
      · have hI := bless_yes hq
        have HD : Hid (lo (R.take (k + 1)) n = lo (R.take k) n ++ [R[k]]) := Lib.hid (filter_take_yes R _ k hlt (by simpa using hq))
        have ht : Hid (ents (lo (R.take (k + 1)) n) = ents (lo (R.take k) n) ++ [.string (bs (R[k]).1), .int .i64 (R[k]).2]) := Lib.hid (by rw [HD.out, ents_app]; rfl)
        have hlen2 : Hid ((lo (R.take (k + 1)) n).length = (lo (R.take k) n).length + 1) := Lib.hid (by rw [HD.out]; simp)
        clear hq
        generalize (lo (R.take k) n).length = dk at *
        go_wp2_with fail
        go_quiet (fail)
        have hown2 := ownsRow_drewN hown nq
        have hBr2 := below_drewN hBr nq
        go_wp2_with (at_builtin; refine wpList_append_own _ rfl (.tmp 28) (.tmp 33) 72 rfl w1.heap.size 130 i0 _ 2 24 Tryz.underlying72 hi0 hz0 hz1 hz2 rfl (by decide) _ dk _ rfl (hown2.alloc _) ⟨wr.heap.size, 0, none⟩ 1 1 [.string (bs (R[k]).1), .int .i64 (R[k]).2] rfl rfl (World.news_of_block (cs := #[.string (bs (R[k]).1), .int .i64 (R[k]).2]) (t := 130) (fr := (0, 0)) (heap_alloc_new (wr.drewN nq) _)) (by simp [Value.oneCell']) (by unfold maxLen; omega) (by omega) (by simp; omega) ?_)
        intro v3 w3 ho3 hgr3 _
        have hB3 := below_appended (Nat.le_refl _) hBr2 hown2 hgr3
        rw [← ht.out, ← hlen2.out] at ho3
        go_wp2_with fail
        go_roundw
        case rel => exact ⟨k + 1, by go_num, hlt, ho3, hB3⟩
        case measure => simp [intOf]; omega
      · have hI := bless_no hq
        have HD : Hid (lo (R.take (k + 1)) n = lo (R.take k) n) := Lib.hid (filter_take_no R _ k hlt (by simpa using hq))
        clear hq
        go_wp2_with fail
        go_quiet (fail)
        go_wp2_with fail
        go_roundw
        case rel => exact ⟨k + 1, by go_num, hlt, by rw [HD.out]; exact ownsRow_drewN hown nq, below_drewN hBr nq⟩
        case measure => simp [intOf]; omega
    · have hke : k = R.length := by omega
      have HT : Hid (R.take k = R) := Lib.hid (by rw [hke, List.take_length])
      have hge : R.length ≤ k := by omega
      rw [HT.out] at hown hll
      have ce1 : wr.cell? ⟨nf, 1, none⟩ = some (.int .i64 z) := by rw [Lib.cell_of_heap hbF2]; rfl
      have HS : Hid (ents (lo R n ++ [(n, z)]) = ents (lo R n) ++ [.string (bs n), .int .i64 z]) := Lib.hid (ents_app _ _)
      have HSl : Hid ((lo R n ++ [(n, z)]).length = (lo R n).length + 1) := Lib.hid (by simp)
      clear hke hlt hbF2
      generalize hdk : (lo R n).length = dk at *
      go_wp2_with (at_builtin; refine wpList_append_own _ rfl (.tmp 35) (.tmp 37) 72 rfl w1.heap.size 130 i0 _ 2 24 Tryz.underlying72 hi0 hz0 hz1 hz2 rfl (by decide) _ dk _ rfl (hown.alloc _) ⟨wr.heap.size, 0, none⟩ 1 1 [.string (bs n), .int .i64 z] rfl rfl (World.news_of_block (cs := #[.string (bs n), .int .i64 z]) (t := 130) (fr := (0, 0)) (heap_alloc_new wr _)) (by simp [Value.oneCell']) (by unfold maxLen; omega) (by omega) (by simp; omega) ?_)
      intro v3 w3 ho3 hgr3 _
      have hB3 := below_appended (Nat.le_refl _) hBr hown hgr3
      rw [← HS.out, ← HSl.out] at ho3
      have hAl : (lo R n ++ [(n, z)]).length ≤ 10001 := by rw [HSl.out]; omega
      have HEE : Hid ((lo R n ++ [(n, z)]) ++ hi R n = putL l (n, z)) := Lib.hid (by rw [← HE.out]; simp)
      have HO3 := Lib.hid ho3
      have HB3 := Lib.hid hB3
      clear hgr3 ho3 hB3 hown hBr ce0 ce1 hll sB HS HSl hdk
      generalize lo R n ++ [(n, z)] = A at *
      go_wp2_with fail
      go_loopw [6, 8] (fun o i wr => ∃ k : Nat, i = .int .i64 k ∧ k ≤ R.length ∧ wr.ownsRow w1.heap.size 130 2 o (A ++ hi (R.take k) n).length (ents (A ++ hi (R.take k) n)) ∧ Below w1.heap.size w1 wr) (fun _ i _ => R.length - (intOf i).toNat)
      case atStart => exact ⟨0, rfl, Nat.zero_le _, by have : A ++ hi (R.take 0) n = A := by simp [hi]
                                                       rw [this]; exact HO3.out, HB3.out⟩
      case round =>
        obtain ⟨k, rfl, hk, hown, hBr⟩ := hrel
        have sB := hBr.size
        have hbF2 := (hBr.block nf (by omega)).trans hbF1
        have ce0 : wr.cell? ⟨nf, 0, none⟩ = some (.string (bs n)) := by rw [Lib.cell_of_heap hbF2]; rfl
        have hll := hi_take_len R n k
        have hal : (A ++ hi (R.take k) n).length ≤ 20001 := by rw [List.length_append]; omega
        by_cases hlt : k < R.length
        · obtain ⟨b, off, cap', e, hn, hm, hb, hlen, hc⟩ := HR.out.at (by omega)
          injection e with e1 _ e2
          subst e1
          subst e2
          have hc0 := (hBr.cell (p := ⟨b, off + k * 2, none⟩) (by show b < _; omega)).trans (hc _ _ (ents_at0 R k hlt))
          have hc1 : wr.cell? ⟨b, off + k * 2 + 1, none⟩ = _ := (hBr.cell (p := ⟨b, off + k * 2 + 1, none⟩) (by show b < _; omega)).trans (hc (k * 2 + 1) _ (ents_at1 R k hlt))
          have k0 : (0 : Int) ≤ (k : Int) := by omega
          have k1 : (k : Int) < (R.length : Int) := by omega
          clear hc hbF2
          by_cases hq : n < (R[k]).1
          · have hI := bless_no (lt_as hq)
            have hI2 := beq_list_false (lt_ne hq).symm
            have HD : Hid (A ++ hi (R.take (k + 1)) n = A ++ hi (R.take k) n ++ [R[k]]) := Lib.hid (by
              have : hi (R.take (k + 1)) n = hi (R.take k) n ++ [R[k]] := filter_take_yes R _ k hlt (by simpa using hq)
              rw [this, List.append_assoc])
            have ht : Hid (ents (A ++ hi (R.take (k + 1)) n) = ents (A ++ hi (R.take k) n) ++ [.string (bs (R[k]).1), .int .i64 (R[k]).2]) := Lib.hid (by rw [HD.out, ents_app]; rfl)
            have hlen2 : Hid ((A ++ hi (R.take (k + 1)) n).length = (A ++ hi (R.take k) n).length + 1) := Lib.hid (by rw [HD.out, List.length_append (bs := [R[k]])]; rfl)
            clear hq
            generalize (A ++ hi (R.take k) n).length = dk at *
            go_wp2_with fail
            go_quiet (fail)
            have hown2 := ownsRow_drewN hown nq
            have hBr2 := below_drewN hBr nq
            go_wp2_with (at_builtin; refine wpList_append_own _ rfl (.tmp 53) (.tmp 58) 72 rfl w1.heap.size 130 i0 _ 2 24 Tryz.underlying72 hi0 hz0 hz1 hz2 rfl (by decide) _ dk _ rfl (hown2.alloc _) ⟨wr.heap.size, 0, none⟩ 1 1 [.string (bs (R[k]).1), .int .i64 (R[k]).2] rfl rfl (World.news_of_block (cs := #[.string (bs (R[k]).1), .int .i64 (R[k]).2]) (t := 130) (fr := (0, 0)) (heap_alloc_new (wr.drewN nq) _)) (by simp [Value.oneCell']) (by unfold maxLen; omega) (by omega) (by simp; omega) ?_)
            intro v5 w5 ho5 hgr5 _
            have hB5 := below_appended (Nat.le_refl _) hBr2 hown2 hgr5
            rw [← ht.out, ← hlen2.out] at ho5
            go_wp2_with fail
            go_roundw
            case rel => exact ⟨k + 1, by go_num, hlt, ho5, hB5⟩
            case measure => simp [intOf]; omega
          · have hlw := leq_ways hq
            have HD : Hid (A ++ hi (R.take (k + 1)) n = A ++ hi (R.take k) n) := Lib.hid (by
              have : hi (R.take (k + 1)) n = hi (R.take k) n := filter_take_no R _ k hlt (by simpa using hq)
              rw [this])
            clear hq
            rcases hlw with ⟨hI, hI2⟩ | ⟨hI, hI2⟩
            all_goals (
              go_wp2_with fail
              go_quiet (fail)
              go_wp2_with fail
              go_roundw
              case rel => exact ⟨k + 1, by go_num, hlt, by rw [HD.out]; exact ownsRow_drewN hown nq, below_drewN hBr nq⟩
              case measure => simp [intOf]; omega)
        · have hke : k = R.length := by omega
          have HT : Hid (R.take k = R) := Lib.hid (by rw [hke, List.take_length])
          have hge : R.length ≤ k := by omega
          rw [HT.out, HEE.out] at hown
          clear hke hlt
          go_wp2_with fail
          go_ret
          exact ⟨_, rfl, Rd.own hown (Nat.le_refl _), by rw [hnf]; exact HB1.out.trans (hBr.mono (by omega)), (NewV.own hown).mono (by have := HB1.out.size; omega)⟩
theorem rput_g (X : Nat → Prop) (n : NodeL) (vn : Value) (nm : Nm) (i : Int) (W : World) (hX : Old X W) (hn : NodeX X n vn W) (hl : n.names.length ≤ 10000) :
    Calls Tryz.prog 92 #[vn, .agg #[.string (bs nm), .int .i64 i]] W fun e w' => ∃ ao cap, e = .returned (.slice ao (putN n nm i).names.length cap) ∧ NodeX X (putN n nm i) (.slice ao (putN n nm i).names.length cap) w' ∧ Below W.heap.size W w' := by
  refine (rputN_any W.heap.size vn n.names nm i W hn.1 (Nat.le_refl _) hl).mono ?_
  rintro e w' ⟨v1, rfl, hr, hb, hw⟩
  have hN : NodeX X (putN n nm i) v1 w' := ⟨hr, fun g hg => new_avoid hw (hX g hg)⟩
  obtain ⟨ao, cap, rfl⟩ := node_form hN
  exact ⟨ao, cap, rfl, hN, hb⟩
theorem rdrop_g (X : Nat → Prop) (n : NodeL) (vn : Value) (nm : Nm) (W : World) (hX : Old X W) (hn : NodeX X n vn W) (hl : n.names.length ≤ 10000) :
    Calls Tryz.prog 69 #[vn, .string (bs nm)] W fun e w' => ∃ ao cap, e = .returned (.slice ao (dropN n nm).names.length cap) ∧ NodeX X (dropN n nm) (.slice ao (dropN n nm).names.length cap) w' ∧ Below W.heap.size W w' := by
  refine (rdropN_any W.heap.size vn n.names nm W hn.1 (Nat.le_refl _) hl).mono ?_
  rintro e w' ⟨v1, rfl, hr, hb, hw⟩
  have hN : NodeX X (dropN n nm) v1 w' := ⟨hr, fun g hg => new_avoid hw (hX g hg)⟩
  obtain ⟨ao, cap, rfl⟩ := node_form hN
  exact ⟨ao, cap, rfl, hN, hb⟩
end Go.Proofs.YtpmhmippoefcfaaGreatDoor
