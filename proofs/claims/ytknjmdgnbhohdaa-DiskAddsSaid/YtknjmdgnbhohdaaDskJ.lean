/-
  The program's Add.
-/
import Derived.Test.YtknjmdgnbhohdaaDskI
namespace Go.Proofs.Ytknjmdgnbhohdaa
open Go.RowKit Go.Shelf
attribute [local go_sem ↓] Go.wp_at_zero Go.wp_at_succ

def addNo (l : List NodeL) (most room : Int) (n : NodeL) : Bool := decide (most ≤ (usedL l : Int)) || decide (room < (bytesL l : Int) + (weightL n : Int))
def addI (l : List NodeL) (most room : Int) (n : NodeL) : Int := if addNo l most room n then 0 else if idxL l 0 < 0 then l.length else idxL l 0
def addE (l : List NodeL) (most room : Int) (n : NodeL) : Int := if addNo l most room n then 10 else 0
def addL (l : List NodeL) (most room : Int) (n : NodeL) : List NodeL := if addNo l most room n then l else if idxL l 0 < 0 then l ++ [n] else l.set (idxL l 0).toNat n
theorem idx_cases (l : List NodeL) (k : Nat) : (idxL l k = -1 ∧ ∀ i (h : i < l.length), l[i].kind ≠ 0) ∨ ∃ j, ∃ h : j < l.length, idxL l k = ((k + j : Nat) : Int) ∧ l[j].kind = 0 ∧ ∀ i (hi : i < j), (l[i]'(by omega)).kind ≠ 0 := by
  induction l generalizing k with
  | nil => exact .inl ⟨rfl, fun i h => by simp at h⟩
  | cons n l ih =>
    by_cases h0 : n.kind = 0
    · refine .inr ⟨0, by simp, ?_, h0, fun i hi => absurd hi (Nat.not_lt_zero _)⟩
      unfold idxL
      rw [if_pos h0]
      rfl
    · have e : idxL (n :: l) k = idxL l (k + 1) := by
        conv => lhs; unfold idxL
        rw [if_neg h0]
      rw [e]
      rcases ih (k + 1) with ⟨h1, h2⟩ | ⟨j, hj, h1, h2, h3⟩
      · refine .inl ⟨h1, fun i h => ?_⟩
        cases i with
        | zero => exact h0
        | succ i => exact h2 i (by simpa using h)
      · refine .inr ⟨j + 1, by simpa using hj, by rw [h1]; congr 1; omega, h2, fun i hi => ?_⟩
        cases i with
        | zero => exact h0
        | succ i => exact h3 i (by omega)
/-- What Add tells. -/
def AddIs (l : List NodeL) (most room : Int) (n : NodeL) (e : Ending) (W W' : World) : Prop :=
  ∃ v, e = .returned (.tuple #[.agg #[v, .int .i64 most, .int .i64 room], .int .i64 (addI l most room n), .int .i64 (addE l most room n)]) ∧ GivesN (addL l most room n) v W' ∧ Below W.heap.size W W'
/-- The same, with where it lies: in no old block that what came in does not lie in. -/
def AddIsM (v : Value) (ms : List NodeM) (most room : Int) (n : NodeL) (e : Ending) (W W' : World) : Prop :=
  ∃ v' ms', e = .returned (.tuple #[.agg #[v', .int .i64 most, .int .i64 room], .int .i64 (addI (pl ms) most room n), .int .i64 (addE (pl ms) most room n)]) ∧ pl ms' = addL (pl ms) most room n ∧ RdM W'.heap.size v' ms' W' ∧ Below W.heap.size W W' ∧ ∀ g, g < W.heap.size → AvoidM g v ms → AvoidM g v' ms'
theorem AddIsM.plain {v : Value} {ms : List NodeM} {most room : Int} {n : NodeL} {e : Ending} {W W' : World} (h : AddIsM v ms most room n e W W') : AddIs (pl ms) most room n e W W' := by
  obtain ⟨v', ms', h1, h2, h3, h4, _⟩ := h
  exact ⟨v', h1, ⟨ms', h2, h3⟩, h4⟩
theorem add_no {ms : List NodeM} {v : Value} {most room : Int} {n : NodeL} {w W : World} (h : addNo (pl ms) most room n = true) (hv : RdM w.heap.size v ms w) (hb : Below w.heap.size w W) : AddIsM v ms most room n (.returned (.tuple #[.agg #[v, .int .i64 most, .int .i64 room], .int .i64 0, .int .i64 10])) w W :=
  ⟨v, ms, by unfold addI addE; rw [h]; rfl, by unfold addL; rw [h]; rfl, rdm_keep hv hb, hb, fun _ _ h => h⟩
theorem wrap_small (a b : Nat) (ha : a ≤ 30000) (hb : b ≤ 300) : IntKind.i64.wrap ((a : Int) + (b : Int)) = (a : Int) + (b : Int) := by
  exact Go.IntWalk.i64_in _ (by omega)
set_option maxRecDepth 100000 in
set_option maxHeartbeats 4000000 in
theorem add_anyM (v : Value) (ms : List NodeM) (most room : Int) (n : NodeL) (vn : Value) (w : World) (hv : RdM w.heap.size v ms w) (hsm : Small (pl ms)) (hn : RdNm w.heap.size (n, vn) w) (hns : SmallN n) :
    Calls Try.prog 20 #[.agg #[v, .int .i64 most, .int .i64 room], nval n vn] w fun e w' => AddIsM v ms most room n e w w' := by
  have hl : ms.length ≤ 100 := by have := hsm.1; rwa [pl_len] at this
  have hnl : n.names.length ≤ 10000 := by have := hns.2; omega
  obtain ⟨ao, cap, rfl, _, _⟩ := rdm_form hv
  obtain ⟨aon, capn, e, _, _⟩ := Rd.form hn
  have e' : vn = .slice aon n.names.length capn := e
  subst e'
  have HV := Lib.hid hv
  have HN := Lib.hid hn
  have HS := Lib.hid hsm
  clear hv hn e hsm
  have hret : ∀ (W : World) (cs : Array Value) (fr), W.heap[w.heap.size + 2]? = some (.cells cs 24 fr) → cs.size = 3 → ∀ tmps : Array Value, tmps.getD 4 undef = .pointer (some ⟨w.heap.size + 2, 0, none⟩) → (results Try.f20 tmps).run Try.prog W = .ok (.tuple #[.agg cs, tmps.getD 5 undef, tmps.getD 6 undef]) W := fun W cs fr h hs tmps ht =>
    results_ctt (p := 4) (u := 5) (v := 6) (ty := 24) rfl tmps W (w.heap.size + 2) _ cs fr _ ht h Try.underlying24 rfl (by rw [hs]; kernel_rfl)
  by_cases h1 : most ≤ (usedL (pl ms) : Int)
  · have hd1 : decide (most ≤ (usedL (pl ms) : Int)) = true := by simpa using h1
    have HNo : Hid (addNo (pl ms) most room n = true) := Lib.hid (by unfold addNo; rw [hd1]; rfl)
    clear h1
    go_enter Try.func20, Try.ntmps20
    go_wp2_with fail
    refine fresh3 (P := fun W => Code.wp _ _ _ _ W) ?_
    intro W0 hb0 hP hQ hR hs0
    have HU : ∀ W, Below W0.heap.size W0 W → Calls Try.prog 14 #[.agg #[.slice ao ms.length cap, .int .i64 most, .int .i64 room]] W fun e w' => e = .returned (.int .i64 (usedL (pl ms))) ∧ Below W.heap.size W w' :=
      fun W hb => used_any _ ms most room W (rdm_keep HV.out (ret_tr hb0 hb)) (by omega)
    obtain ⟨p0, p1, p2⟩ := cells3 hP
    have pp0 := cell_regrown p0
    have pp1 := cell_regrown p1
    have pp2 := cell_regrown p2
    generalize usedL (pl ms) = u at *
    refine wp_region_quiet_below (by kernel_rfl) (by kernel_rfl) ?_
    repeat (go_big_quiet_step ((go_at_call 14; exact Calls.regrown_of (HU _ (below_regrown W0 _ _)))))
    refine wpQuiet_nil ?_
    clear pp0 pp1 pp2
    intro _ hw'
    obtain ⟨⟨dq, osq⟩, hw''⟩ := hw'
    have hbg : Below W0.heap.size W0 _ := below_regrown W0 dq osq
    rw [← hw''] at hbg
    clear hw''
    rename_i W2
    have hP2 := (hbg.block _ (by omega)).trans hP
    have hQ2 := (hbg.block _ (by omega)).trans hQ
    have hR2 := (hbg.block _ (by omega)).trans hR
    have hB2 := ret_tr hb0 hbg
    have hs2 := hbg.size
    clear p0 p1 p2 
    obtain ⟨p0, p1, p2⟩ := cells3 hP2
    obtain ⟨q0, q1, q2⟩ := cells3 hR2
    have rf := fun j => Lib.frozen_of_heap hR2 j
    clear hP hQ hR hP2 hQ2
    go_wp2_with fail
    refine sets3 (P := fun W => bodyPost _ _ _ _ _ W) hR2 ?_
    intro W3 hb3 hg3 hs3 hR3
    refine bodyPost_ret (hret _ _ _ hR3 rfl _ rfl) rfl ?_
    exact add_no HNo.out HV.out (hB2.trans (hb3.mono (by omega)))
  have hd1 : decide (most ≤ (usedL (pl ms) : Int)) = false := by simpa using h1
  by_cases h2 : room < (bytesL (pl ms) : Int) + (weightL n : Int)
  · have hd2 : decide (room < (bytesL (pl ms) : Int) + (weightL n : Int)) = true := by simpa using h2
    have HNo : Hid (addNo (pl ms) most room n = true) := Lib.hid (by unfold addNo; rw [hd1, hd2]; rfl)
    clear h1 h2
    have hD : n.data.length ≤ 300 := hns.1
    have hbl : bytesL (pl ms) ≤ 30000 := by have := bytes_take_le HS.out (pl ms).length; rwa [List.take_length] at this
    have hwl : weightL n ≤ 300 := weight_le hns
    have hwr := wrap_small _ _ hbl hwl
    go_enter Try.func20, Try.ntmps20
    go_wp2_with fail
    refine fresh3 (P := fun W => Code.wp _ _ _ _ W) ?_
    intro W0 hb0 hP hQ hR hs0
    have HU : ∀ W, Below W0.heap.size W0 W → Calls Try.prog 14 #[.agg #[.slice ao ms.length cap, .int .i64 most, .int .i64 room]] W fun e w' => e = .returned (.int .i64 (usedL (pl ms))) ∧ Below W.heap.size W w' :=
      fun W hb => used_any _ ms most room W (rdm_keep HV.out (ret_tr hb0 hb)) (by omega)
    have HBy : ∀ W, Below W0.heap.size W0 W → Calls Try.prog 16 #[.agg #[.slice ao ms.length cap, .int .i64 most, .int .i64 room]] W fun e w' => e = .returned (.int .i64 (bytesL (pl ms))) ∧ Below W.heap.size W w' :=
      fun W hb => bytes_any _ ms most room W (rdm_keep HV.out (ret_tr hb0 hb)) HS.out
    have HSt : ∀ W, Calls Try.prog 27 #[nval n (.slice aon n.names.length capn)] W fun e w' => e = .returned (.int .i64 (weightL n)) ∧ Below W.heap.size W w' := fun W => stored_any n _ W
    obtain ⟨p0, p1, p2⟩ := cells3 hP
    obtain ⟨q0, q1, q2, q3, q4, q5, q6, q7⟩ := cells8 hQ
    have pp0 := cell_regrown p0
    have pp1 := cell_regrown p1
    have pp2 := cell_regrown p2
    have qq0 := cell_regrown q0
    have qq1 := cell_regrown q1
    have qq2 := cell_regrown q2
    have qq3 := cell_regrown q3
    have qq4 := cell_regrown q4
    have qq5 := cell_regrown q5
    have qq6 := cell_regrown q6
    have qq7 := cell_regrown q7
    generalize usedL (pl ms) = u at *
    generalize bytesL (pl ms) = y at *
    generalize hz : weightL n = z at *
    refine wp_region_quiet_below (by kernel_rfl) (by kernel_rfl) ?_
    repeat (go_big_quiet_step (first | (go_at_call 14; exact Calls.regrown_of (HU _ (below_regrown W0 _ _))) | (go_at_call 16; exact Calls.regrown_of (HBy _ (below_regrown W0 _ _))) | (go_at_call 27; exact Calls.regrown_of (HSt _))))
    refine wpQuiet_nil ?_
    clear pp0 pp1 pp2 qq0 qq1 qq2 qq3 qq4 qq5 qq6 qq7
    intro _ hw'
    obtain ⟨⟨dq, osq⟩, hw''⟩ := hw'
    have hbg : Below W0.heap.size W0 _ := below_regrown W0 dq osq
    rw [← hw''] at hbg
    clear hw''
    rename_i W2
    have hP2 := (hbg.block _ (by omega)).trans hP
    have hQ2 := (hbg.block _ (by omega)).trans hQ
    have hR2 := (hbg.block _ (by omega)).trans hR
    have hB2 := ret_tr hb0 hbg
    have hs2 := hbg.size
    clear p0 p1 p2 q0 q1 q2 q3 q4 q5 q6 q7
    obtain ⟨p0, p1, p2⟩ := cells3 hP2
    obtain ⟨q0, q1, q2⟩ := cells3 hR2
    have rf := fun j => Lib.frozen_of_heap hR2 j
    clear hP hQ hR hP2 hQ2
    go_wp2_with fail
    refine sets3 (P := fun W => bodyPost _ _ _ _ _ W) hR2 ?_
    intro W3 hb3 hg3 hs3 hR3
    refine bodyPost_ret (hret _ _ _ hR3 rfl _ rfl) rfl ?_
    exact add_no HNo.out HV.out (hB2.trans (hb3.mono (by omega)))
  · have hd2 : decide (room < (bytesL (pl ms) : Int) + (weightL n : Int)) = false := by simpa using h2
    have HNo : Hid (addNo (pl ms) most room n = false) := Lib.hid (by unfold addNo; rw [hd1, hd2]; rfl)
    clear h1 h2
    have hD : n.data.length ≤ 300 := hns.1
    have hbl : bytesL (pl ms) ≤ 30000 := by have := bytes_take_le HS.out (pl ms).length; rwa [List.take_length] at this
    have hwl : weightL n ≤ 300 := weight_le hns
    have hwr := wrap_small _ _ hbl hwl
    go_enter Try.func20, Try.ntmps20
    go_wp2_with fail
    refine fresh3 (P := fun W => Code.wp _ _ _ _ W) ?_
    intro W0 hb0 hP hQ hR hs0
    have HU : ∀ W, Below W0.heap.size W0 W → Calls Try.prog 14 #[.agg #[.slice ao ms.length cap, .int .i64 most, .int .i64 room]] W fun e w' => e = .returned (.int .i64 (usedL (pl ms))) ∧ Below W.heap.size W w' :=
      fun W hb => used_any _ ms most room W (rdm_keep HV.out (ret_tr hb0 hb)) (by omega)
    have HBy : ∀ W, Below W0.heap.size W0 W → Calls Try.prog 16 #[.agg #[.slice ao ms.length cap, .int .i64 most, .int .i64 room]] W fun e w' => e = .returned (.int .i64 (bytesL (pl ms))) ∧ Below W.heap.size W w' :=
      fun W hb => bytes_any _ ms most room W (rdm_keep HV.out (ret_tr hb0 hb)) HS.out
    have HSt : ∀ W, Calls Try.prog 27 #[nval n (.slice aon n.names.length capn)] W fun e w' => e = .returned (.int .i64 (weightL n)) ∧ Below W.heap.size W w' := fun W => stored_any n _ W
    obtain ⟨p0, p1, p2⟩ := cells3 hP
    obtain ⟨q0, q1, q2, q3, q4, q5, q6, q7⟩ := cells8 hQ
    have pp0 := cell_regrown p0
    have pp1 := cell_regrown p1
    have pp2 := cell_regrown p2
    have qq0 := cell_regrown q0
    have qq1 := cell_regrown q1
    have qq2 := cell_regrown q2
    have qq3 := cell_regrown q3
    have qq4 := cell_regrown q4
    have qq5 := cell_regrown q5
    have qq6 := cell_regrown q6
    have qq7 := cell_regrown q7
    generalize usedL (pl ms) = u at *
    generalize bytesL (pl ms) = y at *
    generalize hz : weightL n = z at *
    refine wp_region_quiet_below (by kernel_rfl) (by kernel_rfl) ?_
    repeat (go_big_quiet_step (first | (go_at_call 14; exact Calls.regrown_of (HU _ (below_regrown W0 _ _))) | (go_at_call 16; exact Calls.regrown_of (HBy _ (below_regrown W0 _ _))) | (go_at_call 27; exact Calls.regrown_of (HSt _))))
    refine wpQuiet_nil ?_
    clear pp0 pp1 pp2 qq0 qq1 qq2 qq3 qq4 qq5 qq6 qq7
    intro _ hw'
    obtain ⟨⟨dq, osq⟩, hw''⟩ := hw'
    have hbg : Below W0.heap.size W0 _ := below_regrown W0 dq osq
    rw [← hw''] at hbg
    clear hw''
    rename_i W2
    have hP2 := (hbg.block _ (by omega)).trans hP
    have hQ2 := (hbg.block _ (by omega)).trans hQ
    have hR2 := (hbg.block _ (by omega)).trans hR
    have hB2 := ret_tr hb0 hbg
    have hs2 := hbg.size
    clear p0 p1 p2 q0 q1 q2 q3 q4 q5 q6 q7 hd1 hd2 hwr HU HBy HSt
    obtain ⟨p0, p1, p2⟩ := cells3 hP2
    clear hP hQ hR
    go_wp2_with fail
    refine (index_any (.slice ao ms.length cap) ms W2 (rdm_keep HV.out hB2) (by omega)).mono ?_
    rintro e W3 ⟨rfl, hb3⟩
    have hP3 := (hb3.block _ (by omega)).trans hP2
    have hQ3 := (hb3.block _ (by omega)).trans hQ2
    have hR3 := (hb3.block _ (by omega)).trans hR2
    have hB3 := ret_tr hB2 hb3
    have hs3 := hb3.size
    clear p0 p1 p2 hP2 hQ2 hR2 hB2 hb3
    obtain ⟨p0, p1, p2⟩ := cells3 hP3
    have HI := Lib.hid (idx_cases (pl ms) 0)
    rcases HI.out with ⟨hx, -⟩ | ⟨j, hj, hx, -, -⟩
    · have hL : Hid (addL (pl ms) most room n = pl ms ++ [n]) := Lib.hid (by unfold addL; rw [HNo.out, hx]; rfl)
      have hJ : Hid (addI (pl ms) most room n = (ms.length : Int)) := Lib.hid (by unfold addI; rw [HNo.out, hx, pl_len]; rfl)
      have hE : Hid (addE (pl ms) most room n = 0) := Lib.hid (by unfold addE; rw [HNo.out]; rfl)
      rw [hx]
      clear hx HI
      have pf := fun j => Lib.frozen_of_heap hP3 j
      go_wp2_with fail
      refine fresh2 (P := fun W => Calls _ _ _ W _) ?_
      intro W4 hb4 hA hC hs4
      have hB4 := ret_tr hB3 hb4
      have hm4 := Lib.hid (rdm_keep HV.out hB4)
      have hz4 : RdM W4.heap.size (.slice (some ⟨W3.heap.size, 0, none⟩) 1 1) [(zeroN, .slice none 0 0)] W4 := rdm_one hA rfl (by omega)
      have hC2 : W4.cell? ⟨W3.heap.size + 1, 0, none⟩ = some (.slice ao ms.length cap) ∧ W4.cell? ⟨W3.heap.size + 1, 1, none⟩ = some (.slice (some ⟨W3.heap.size, 0, none⟩) 1 1) := by
        refine ⟨?_, ?_⟩ <;> (rw [Lib.cell_of_heap hC]; rfl)
      have hcon := concat_any (W3.heap.size + 1) 0 2 [(.slice ao ms.length cap, ms), (.slice (some ⟨W3.heap.size, 0, none⟩) 1 1, [(zeroN, .slice none 0 0)])] W4 (by omega)
        (by
          intro k hk
          have hk2 : k = 0 ∨ k = 1 := by simp at hk; omega
          rcases hk2 with rfl | rfl
          · exact ⟨hC2.1, hm4.out⟩
          · exact ⟨hC2.2, hz4⟩)
        (by
          intro x hx
          simp only [List.mem_cons, List.not_mem_nil, or_false] at hx
          rcases hx with rfl | rfl
          · show ms.length ≤ 10001; omega
          · simp)
        (by simp)
      have hall : allM [((Value.slice ao ms.length cap, ms) : Src), (.slice (some ⟨W3.heap.size, 0, none⟩) 1 1, [(zeroN, .slice none 0 0)])] = ms ++ [(zeroN, .slice none 0 0)] := by simp [allM]
      rw [hall] at hcon
      refine hcon.mono ?_
      clear hcon hall hC2 hz4
      rintro e W5 ⟨v5, rfl, ho5, hb5⟩
      have hP5 := (hb5.block _ (by omega)).trans ((hb4.block _ (by omega)).trans hP3)
      have hQ5 := (hb5.block _ (by omega)).trans ((hb4.block _ (by omega)).trans hQ3)
      have hR5 := (hb5.block _ (by omega)).trans ((hb4.block _ (by omega)).trans hR3)
      have hB5 := ret_tr hB4 hb5
      have hs5 := hb5.size
      have hd5 : RdM W5.heap.size v5 (ms ++ [(zeroN, .slice none 0 0)]) W5 := ⟨Rd.own ho5 (Nat.le_refl _), fun m hm => by
        rcases List.mem_append.1 hm with hm | hm
        · exact (rdm_keep hm4.out hb5).2 m hm
        · obtain rfl := List.mem_singleton.1 hm
          exact Rd.none0 _ _ _⟩
      have hl5 : (ms ++ [((zeroN, .slice none 0 0) : NodeM)]).length = ms.length + 1 := by simp
      obtain ⟨ao5, cap5, rfl⟩ := own_form ho5
      rw [hl5] at ho5
      clear p0 p1 p2 pf hA hC hb4 hb5 hP3 hQ3 hR3 hB3 hB4 hm4
      obtain ⟨p0, p1, p2⟩ := cells3 hP5
      have pf := fun j => Lib.frozen_of_heap hP5 j
      rw [hl5] at hd5
      obtain ⟨c0, c1, c2, c3, c4, c5, c6, c7⟩ := cells8 hQ5
      go_wp2_with fail
      have hR6 := (Below.heap_setCell W5 ⟨w.heap.size, 0, none⟩ (.slice ao5 (ms.length + 1) cap5) (w.heap.size + 2) (by show w.heap.size + 2 ≠ w.heap.size; omega)).trans hR5
      have hB6 := hB5.setCell (p := ⟨w.heap.size, 0, none⟩) (Nat.le_refl _) (.slice ao5 (ms.length + 1) cap5)
      have hs6 : (W5.setCell ⟨w.heap.size, 0, none⟩ (.slice ao5 (ms.length + 1) cap5)).heap.size = W5.heap.size := by simp
      have hd6 : RdM (W5.setCell ⟨w.heap.size, 0, none⟩ (.slice ao5 (ms.length + 1) cap5)).heap.size (.slice ao5 (ms.length + 1) cap5) (ms ++ [(zeroN, .slice none 0 0)]) (W5.setCell ⟨w.heap.size, 0, none⟩ (.slice ao5 (ms.length + 1) cap5)) := by
        rw [hs6]
        refine rdm_other (g := w.heap.size) hd5 (own_far ho5 (by omega)) (fun x hx => ?_) fun k hk => Below.heap_setCell _ _ _ k hk
        rcases List.mem_append.1 hx with hx | hx
        · exact rd_far (HV.out.2 x hx) (Nat.le_refl _)
        · obtain rfl := List.mem_singleton.1 hx
          intro a n' c e _
          cases e
      clear p0 p1 p2 pf c0 c1 c2 c3 c4 c5 c6 c7
      generalize W5.setCell ⟨w.heap.size, 0, none⟩ (.slice ao5 (ms.length + 1) cap5) = W6 at *
      refine (set_any (.slice ao5 (ms.length + 1) cap5) (ms ++ [(zeroN, .slice none 0 0)]) most room ms.length n (.slice aon n.names.length capn) W6 hd6 (by rw [hl5]; omega) (rdnm_keep HN.out hB6) hnl).mono ?_
      intro e W7 hset7
      obtain ⟨v7, m7, rfl, hm7, hd7, hb7, hav⟩ := hset7
      have hR7 := (hb7.block _ (by omega)).trans hR6
      have hB7 := ret_tr hB6 hb7
      have hs7 := hb7.size
      obtain ⟨q0, q1, q2⟩ := cells3 hR7
      have rf := fun j => Lib.frozen_of_heap hR7 j
      obtain ⟨ao7, cap7, rfl, _, _⟩ := rdm_form hd7
      go_wp2_with fail
      refine sets3 (P := fun W => bodyPost _ _ _ _ _ W) hR7 ?_
      intro W8 hb8 hg8 hs8 hR8
      refine bodyPost_ret (hret _ _ _ hR8 rfl _ rfl) rfl ?_
      have hset : setL (pl (ms ++ [((zeroN, .slice none 0 0) : NodeM)])) (ms.length : Int) n = pl ms ++ [n] := by
        have e1 : pl (ms ++ [((zeroN, .slice none 0 0) : NodeM)]) = pl ms ++ [zeroN] := by simp [pl]
        unfold setL
        rw [e1, nat_in (by simp [pl_len]), if_pos rfl, Int.toNat_natCast, ← pl_len ms, List.set_append_right _ _ (Nat.le_refl _), Nat.sub_self]
        rfl
      have hav2 := hav (w.heap.size + 2) (by omega) ⟨own_far ho5 (by omega), fun x hx => by
        rcases List.mem_append.1 hx with hx | hx
        · exact rd_far (HV.out.2 x hx) (by omega)
        · obtain rfl := List.mem_singleton.1 hx
          intro a n' c e _
          cases e⟩
      refine ⟨_, m7, by rw [hJ.out, hE.out]; rfl, (hm7.trans hset).trans hL.out.symm, ?_, hB7.trans (hb8.mono (by omega)), fun q hq hq2 => hav q (by omega) ⟨own_far ho5 (by omega), fun x hx => ?_⟩⟩
      · rw [hs8]
        exact rdm_other hd7 hav2.1 hav2.2 hg8
      · rcases List.mem_append.1 hx with hx | hx
        · exact hq2.2 x hx
        · obtain rfl := List.mem_singleton.1 hx
          intro a n' c e _
          cases e
    · rw [Nat.zero_add] at hx
      have hL : Hid (addL (pl ms) most room n = setL (pl ms) (j : Int) n) := Lib.hid (by unfold addL setL; rw [HNo.out, hx, nat_in hj, if_neg (by simp), if_neg (by omega), if_pos rfl])
      have hJ : Hid (addI (pl ms) most room n = (j : Int)) := Lib.hid (by unfold addI; rw [HNo.out, hx, if_neg (by simp), if_neg (by omega)])
      have hE : Hid (addE (pl ms) most room n = 0) := Lib.hid (by unfold addE; rw [HNo.out]; rfl)
      rw [hx]
      clear hx hj HI
      have hneg : decide ((j : Int) < 0) = false := by simp
      obtain ⟨c0, c1, c2, c3, c4, c5, c6, c7⟩ := cells8 hQ3
      go_wp2_with fail
      refine (set_any (.slice ao ms.length cap) ms most room j n (.slice aon n.names.length capn) W3 (rdm_keep HV.out hB3) (by omega) (rdnm_keep HN.out hB3) hnl).mono ?_
      intro e W7 hset7
      obtain ⟨v7, m7, rfl, hm7, hd7, hb7, hav⟩ := hset7
      have hR7 := (hb7.block _ (by omega)).trans hR3
      have hB7 := ret_tr hB3 hb7
      have hs7 := hb7.size
      obtain ⟨q0, q1, q2⟩ := cells3 hR7
      have rf := fun j => Lib.frozen_of_heap hR7 j
      clear p0 p1 p2 c0 c1 c2 c3 c4 c5 c6 c7
      obtain ⟨ao7, cap7, rfl, _, _⟩ := rdm_form hd7
      go_wp2_with fail
      refine sets3 (P := fun W => bodyPost _ _ _ _ _ W) hR7 ?_
      intro W8 hb8 hg8 hs8 hR8
      refine bodyPost_ret (hret _ _ _ hR8 rfl _ rfl) rfl ?_
      have hav2 := hav (w.heap.size + 2) (by omega) ⟨rd_far HV.out.1 (by omega), fun x hx => rd_far (HV.out.2 x hx) (by omega)⟩
      refine ⟨_, m7, by rw [hJ.out, hE.out]; rfl, hm7.trans hL.out.symm, ?_, hB7.trans (hb8.mono (by omega)), fun q hq hq2 => hav q (by omega) hq2⟩
      rw [hs8]
      exact rdm_other hd7 hav2.1 hav2.2 hg8
theorem add_any (v : Value) (ms : List NodeM) (most room : Int) (n : NodeL) (vn : Value) (w : World) (hv : RdM w.heap.size v ms w) (hsm : Small (pl ms)) (hn : RdNm w.heap.size (n, vn) w) (hns : SmallN n) :
    Calls Try.prog 20 #[.agg #[v, .int .i64 most, .int .i64 room], nval n vn] w fun e w' => AddIs (pl ms) most room n e w w' :=
  (add_anyM v ms most room n vn w hv hsm hn hns).mono fun _ _ h => h.plain
end Go.Proofs.Ytknjmdgnbhohdaa
