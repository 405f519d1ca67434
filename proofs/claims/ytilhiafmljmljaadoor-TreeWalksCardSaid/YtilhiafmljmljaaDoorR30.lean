import Derived.Test.YtilhiafmljmljaaDoorR29
import Derived.Test.YtilhiafmljmljaaDoorR28
import Derived.Test.YtilhiafmljmljaaDoorR22
import Derived.Test.YtilhiafmljmljaaDoorR18
import Derived.Test.YtilhiafmljmljaaDoorR25
import Derived.Test.YtilhiafmljmljaaDoorR24
namespace Go.Proofs.YtilhiafmljmljaaDoor
open Go.RowKit Go.Shelf
attribute [local go_sem ↓] Go.wp_at_zero Go.wp_at_succ
def OkTo (p : Nat → Bool) (k : Nat) : Prop := ∀ i, i < k → p i = true
theorem okTo_succ {p : Nat → Bool} {k : Nat} (h : OkTo p k) (hk : p k = true) : OkTo p (k + 1) := fun i hi => by
  rcases Nat.lt_or_ge i k with h1 | h1
  · exact h i h1
  · obtain rfl : i = k := by omega
    exact hk
theorem okTo_all {p : Nat → Bool} {k : Nat} (h : OkTo p k) : (List.range k).all p = true := (range_all p k).2 h
theorem okTo_bad {p : Nat → Bool} {k n : Nat} (hk : k < n) (h : p k = false) : (List.range n).all p = false := by
  rw [Bool.eq_false_iff]
  intro hc
  have := (range_all p n).1 hc k hk
  rw [h] at this
  cases this
def headR (l : List NodeL) (most room : Int) : Bool := !decide (l.length = 0) && !decide (most < l.length) && !decide (room < bytesL l) && decide ((atI l 0).kind = 2)
theorem rightR_eq (l : List NodeL) (most room : Int) : rightR l most room = (headR l most room && (List.range l.length).all fun i => okR l i (atI l i)) := rfl
set_option maxRecDepth 100000 in
set_option maxHeartbeats 8000000 in
theorem rright_any (v : Value) (ms : List NodeM) (most room : Int) (w : World) (hv : RdM w.heap.size v ms w) (hsm : Small (pl ms)) (hfit : FitD (pl ms)) :
    Calls Tryd.prog 11 #[.agg #[v, .int .i64 most, .int .i64 room]] w fun e w' => e = .returned (.bool (rightR (pl ms) most room)) ∧ Below w.heap.size w w' := by
  have hl : ms.length ≤ 110 := by have := hsm.1; rwa [pl_len] at this
  have hbl : bytesL (pl ms) ≤ 33000 := by have := bytes_take_le hsm (pl ms).length; rwa [List.take_length] at this
  obtain ⟨ao, cap, rfl, _, _⟩ := rdm_form hv
  have HV := Lib.hid hv
  have HS := Lib.hid hsm
  have HF := Lib.hid hfit
  clear hv hsm hfit
  by_cases h0 : ms.length = 0
  · have hI : ((ms.length : Int) == 0) = true := by rw [beq_iff_eq]; omega
    have HE : Hid (rightR (pl ms) most room = false) := Lib.hid (by rw [rightR_eq]; unfold headR; rw [pl_len, h0]; rfl)
    clear h0
    go_enter Tryd.func11, Tryd.ntmps11
    go_wp2_with fail
    refine fresh1 (P := fun W => Code.wp _ _ _ _ W) ?_
    intro W0 hb0 hP hs0
    obtain ⟨p0, p1, p2⟩ := cells3 hP
    have pp0 := cell_regrown p0
    have pp1 := cell_regrown p1
    have pp2 := cell_regrown p2
    refine wp_region_quiet_below (by kernel_rfl) (by kernel_rfl) ?_
    repeat (go_big_quiet_step (fail))
    refine wpQuiet_nil ?_
    clear pp0 pp1 pp2
    intro _ hw'
    obtain ⟨⟨dq, osq⟩, hw''⟩ := hw'
    have hbg : Below W0.heap.size W0 _ := below_regrown W0 dq osq
    rw [← hw''] at hbg
    clear hw''
    rename_i W2
    have hB2 := ret_tr hb0 hbg
    go_wp2_with fail
    go_ret
    exact ⟨ret_bool HE.out.symm, hB2⟩
  have hI0 : ((ms.length : Int) == 0) = false := by rw [beq_eq_false_iff_ne]; omega
  by_cases h1 : most < (ms.length : Int)
  · have hI : decide (most < (ms.length : Int)) = true := by simpa using h1
    have HE : Hid (rightR (pl ms) most room = false) := Lib.hid (by rw [rightR_eq]; unfold headR; rw [pl_len]; simp [h1])
    clear h0 h1
    go_enter Tryd.func11, Tryd.ntmps11
    go_wp2_with fail
    refine fresh1 (P := fun W => Code.wp _ _ _ _ W) ?_
    intro W0 hb0 hP hs0
    obtain ⟨p0, p1, p2⟩ := cells3 hP
    have pp0 := cell_regrown p0
    have pp1 := cell_regrown p1
    have pp2 := cell_regrown p2
    refine wp_region_quiet_below (by kernel_rfl) (by kernel_rfl) ?_
    repeat (go_big_quiet_step (fail))
    refine wpQuiet_nil ?_
    clear pp0 pp1 pp2
    intro _ hw'
    obtain ⟨⟨dq, osq⟩, hw''⟩ := hw'
    have hbg : Below W0.heap.size W0 _ := below_regrown W0 dq osq
    rw [← hw''] at hbg
    clear hw''
    rename_i W2
    have hB2 := ret_tr hb0 hbg
    go_wp2_with fail
    go_ret
    exact ⟨ret_bool HE.out.symm, hB2⟩
  have hI1 : decide (most < (ms.length : Int)) = false := by simpa using h1
  by_cases h2 : room < (bytesL (pl ms) : Int)
  · have hI : decide (room < (bytesL (pl ms) : Int)) = true := by simpa using h2
    have HE : Hid (rightR (pl ms) most room = false) := Lib.hid (by rw [rightR_eq]; unfold headR; simp [h2])
    clear h0 h1 h2
    go_enter Tryd.func11, Tryd.ntmps11
    go_wp2_with fail
    refine fresh1 (P := fun W => Code.wp _ _ _ _ W) ?_
    intro W0 hb0 hP hs0
    obtain ⟨p0, p1, p2⟩ := cells3 hP
    have pp0 := cell_regrown p0
    have pp1 := cell_regrown p1
    have pp2 := cell_regrown p2
    have HBy : ∀ W, Below W0.heap.size W0 W → Calls Tryd.prog 18 #[.agg #[.slice ao ms.length cap, .int .i64 most, .int .i64 room]] W fun e w' => e = .returned (.int .i64 (bytesL (pl ms))) ∧ Below W.heap.size W w' :=
      fun W hb => rbytes_any _ ms most room W (rdm_keep HV.out (ret_tr hb0 hb)) HS.out
    generalize hby : bytesL (pl ms) = y at *
    refine wp_region_quiet_below (by kernel_rfl) (by kernel_rfl) ?_
    repeat (go_big_quiet_step ((go_at_call 18; exact Calls.regrown_of (HBy _ (below_regrown W0 _ _)))))
    refine wpQuiet_nil ?_
    clear pp0 pp1 pp2
    intro _ hw'
    obtain ⟨⟨dq, osq⟩, hw''⟩ := hw'
    have hbg : Below W0.heap.size W0 _ := below_regrown W0 dq osq
    rw [← hw''] at hbg
    clear hw''
    rename_i W2
    have hB2 := ret_tr hb0 hbg
    go_wp2_with fail
    go_ret
    exact ⟨ret_bool HE.out.symm, hB2⟩
  have hI2 : decide (room < (bytesL (pl ms) : Int)) = false := by simpa using h2
  obtain ⟨b, off, n, aon, capn, rfl, hb, hn, -, -, c0, -⟩ := node_at HV.out 0 (by omega)
  rw [Nat.zero_mul, Nat.add_zero] at c0
  have hat : atI (pl ms) 0 = n := by
    rw [← hn]
    exact at_nat (pl ms) 0 (by rw [pl_len]; omega)
  have h00 : (0 : Int) < (ms.length : Int) := by omega
  by_cases h3 : n.kind = 2
  · have hI3 : (n.kind != 2) = false := by simpa using h3
    have HE : Hid (rightR (pl ms) most room = (List.range (pl ms).length).all fun i => okR (pl ms) i (atI (pl ms) i)) := Lib.hid (by rw [rightR_eq]; unfold headR; rw [pl_len, hat]; simp [h0, h1, h2, h3])
    clear h0 h1 h2 h3 hat hn
    go_enter Tryd.func11, Tryd.ntmps11
    go_wp2_with fail
    refine fresh1 (P := fun W => Code.wp _ _ _ _ W) ?_
    intro W0 hb0 hP hs0
    obtain ⟨p0, p1, p2⟩ := cells3 hP
    have pp0 := cell_regrown p0
    have pp1 := cell_regrown p1
    have pp2 := cell_regrown p2
    have cc0 := cell_regrown ((hb0.cell (p := ⟨b, off, none⟩) hb).trans c0)
    have HBy : ∀ W, Below W0.heap.size W0 W → Calls Tryd.prog 18 #[.agg #[.slice (some ⟨b, off, none⟩) ms.length cap, .int .i64 most, .int .i64 room]] W fun e w' => e = .returned (.int .i64 (bytesL (pl ms))) ∧ Below W.heap.size W w' :=
      fun W hb => rbytes_any _ ms most room W (rdm_keep HV.out (ret_tr hb0 hb)) HS.out
    generalize hby : bytesL (pl ms) = y at *
    refine wp_region_quiet_below (by kernel_rfl) (by kernel_rfl) ?_
    repeat (go_big_quiet_step ((go_at_call 18; exact Calls.regrown_of (HBy _ (below_regrown W0 _ _)))))
    refine wpQuiet_nil ?_
    clear pp0 pp1 pp2 cc0
    intro _ hw'
    obtain ⟨⟨dq, osq⟩, hw''⟩ := hw'
    have hbg : Below W0.heap.size W0 _ := below_regrown W0 dq osq
    rw [← hw''] at hbg
    clear hw''
    rename_i W2
    have hB2 := ret_tr hb0 hbg
    have hP2 := Lib.hid ((hbg.block _ (by omega)).trans hP)
    have hs2 := hbg.size
    clear hbg hP p0 p1 p2 HBy
    go_wp2_with fail
    go_loopw [3] (fun i' wr => ∃ k : Nat, i' = .int .i64 k ∧ k ≤ ms.length ∧ Hid (OkTo (fun i => okR (pl ms) i (atI (pl ms) i)) k) ∧ Below W2.heap.size W2 wr) (fun i' _ => ms.length - (intOf i').toNat)
    case atStart => exact ⟨0, rfl, Nat.zero_le _, Lib.hid (fun i hi => absurd hi (Nat.not_lt_zero _)), Below.refl _ _⟩
    case round =>
      obtain ⟨k, rfl, hk, hO, hBr⟩ := hrel
      obtain ⟨p0, p1, p2⟩ := cells3 ((hBr.block _ (by omega)).trans hP2.out)
      have hBw := ret_tr hB2 hBr
      by_cases hlt : k < ms.length
      · go_wp2_with fail
        refine (right_any (.slice (some ⟨b, off, none⟩) ms.length cap) ms most room k hlt wr (rdm_keep HV.out hBw) HS.out HF.out).mono ?_
        rintro e W3 ⟨rfl, hb3⟩
        have hB3 := ret_tr hBr hb3
        cases hok : okR (pl ms) k (atI (pl ms) k) with
        | false =>
          have HX : Hid (rightR (pl ms) most room = false) := Lib.hid (by rw [HE.out]; exact okTo_bad (by rw [pl_len]; exact hlt) hok)
          clear hok
          go_wp2_with fail
          go_ret
          exact ⟨ret_bool HX.out.symm, ret_tr hB2 hB3⟩
        | true =>
          have HX := Lib.hid (okTo_succ hO.out hok)
          clear hok
          go_wp2_with fail
          go_roundw
          case rel => exact ⟨k + 1, by go_num, hlt, HX, hB3⟩
          case measure => simp [intOf]; omega
      · have hke : k = ms.length := by omega
        have HX : Hid (rightR (pl ms) most room = true) := Lib.hid (by rw [HE.out, pl_len, ← hke]; exact okTo_all hO.out)
        have hI5 : decide (k < ms.length) = false := by simp; omega
        clear hke hlt
        go_wp2_with fail
        go_ret
        exact ⟨ret_bool HX.out.symm, hBw⟩
  · have hI3 : (n.kind != 2) = true := by simpa using h3
    have HE : Hid (rightR (pl ms) most room = false) := Lib.hid (by rw [rightR_eq]; unfold headR; rw [hat]; simp [h3])
    clear h0 h1 h2 h3 hat hn
    go_enter Tryd.func11, Tryd.ntmps11
    go_wp2_with fail
    refine fresh1 (P := fun W => Code.wp _ _ _ _ W) ?_
    intro W0 hb0 hP hs0
    obtain ⟨p0, p1, p2⟩ := cells3 hP
    have pp0 := cell_regrown p0
    have pp1 := cell_regrown p1
    have pp2 := cell_regrown p2
    have cc0 := cell_regrown ((hb0.cell (p := ⟨b, off, none⟩) hb).trans c0)
    have HBy : ∀ W, Below W0.heap.size W0 W → Calls Tryd.prog 18 #[.agg #[.slice (some ⟨b, off, none⟩) ms.length cap, .int .i64 most, .int .i64 room]] W fun e w' => e = .returned (.int .i64 (bytesL (pl ms))) ∧ Below W.heap.size W w' :=
      fun W hb => rbytes_any _ ms most room W (rdm_keep HV.out (ret_tr hb0 hb)) HS.out
    generalize hby : bytesL (pl ms) = y at *
    refine wp_region_quiet_below (by kernel_rfl) (by kernel_rfl) ?_
    repeat (go_big_quiet_step ((go_at_call 18; exact Calls.regrown_of (HBy _ (below_regrown W0 _ _)))))
    refine wpQuiet_nil ?_
    clear pp0 pp1 pp2 cc0
    intro _ hw'
    obtain ⟨⟨dq, osq⟩, hw''⟩ := hw'
    have hbg : Below W0.heap.size W0 _ := below_regrown W0 dq osq
    rw [← hw''] at hbg
    clear hw''
    rename_i W2
    have hB2 := ret_tr hb0 hbg
    go_wp2_with fail
    go_ret
    exact ⟨ret_bool HE.out.symm, hB2⟩
end Go.Proofs.YtilhiafmljmljaaDoor
namespace Go.Proofs.YtilhiafmljmljaaDoor
open Go.RowKit Go.Shelf
attribute [local go_sem ↓] Go.wp_at_zero Go.wp_at_succ
structure TreeD (l : List NodeL) (most room : Int) : Prop where
  ok : TreeOk l
  small : Small l
  fit : FitD l
  right : rightR l most room = true
theorem ints_at (A : List Int) (k : Nat) (h : k < A.length) : (intsC A)[k]? = some (.int .i64 A[k]) := by simp [intsC, h]
end Go.Proofs.YtilhiafmljmljaaDoor
namespace Go.Proofs.YtilhiafmljmljaaDoor
open Go.RowKit
section
variable {l : List NodeL}
def DownT (l : List NodeL) : List Nm → Int → Int → Prop
  | [], i, j => i = j
  | n :: ns, i, j => gotB l i = true ∧ (nodeL l i).kind = 2 ∧ legalL n = 0 ∧ ∃ c, findL (nodeL l i).names n = some c ∧ gotB l c = true ∧ DownT l ns c j
def joinS : List Nm → Nm
  | [] => []
  | [n] => n
  | n :: m :: ns => n ++ 47 :: joinS (m :: ns)
theorem joinS_cons (n : Nm) (ns : List Nm) : joinS (n :: ns) = if ns = [] then n else n ++ 47 :: joinS ns := by
  cases ns <;> simp [joinS]
theorem joinS_nil {ns : List Nm} (h : ∀ n ∈ ns, legalL n = 0) (h0 : ns ≠ []) : joinS ns ≠ [] := by
  cases ns with
  | nil => exact absurd rfl h0
  | cons n ns =>
    rw [joinS_cons]
    split
    · exact (legal_parts (h n List.mem_cons_self)).1
    · simp
theorem down_legal : ∀ (ns : List Nm) (i j : Int), DownT l ns i j → ∀ n ∈ ns, legalL n = 0 := by
  intro ns
  induction ns with
  | nil => intro _ _ _ n hn; cases hn
  | cons m ns ih =>
    rintro i j ⟨_, _, hl, c, _, _, hd⟩ n hn
    rcases List.mem_cons.1 hn with rfl | hn
    · exact hl
    · exact ih c j hd n hn
theorem find_sorted {es : List EntL} (h : Up es) {e : EntL} (he : e ∈ es) : findL es e.1 = some e.2 := by
  induction es with
  | nil => cases he
  | cons a es ih =>
    unfold findL
    rw [List.find?_cons]
    rcases List.mem_cons.1 he with rfl | he'
    · simp
    · have := (List.pairwise_cons.1 h).1 e he'
      have hne : (a.1 == e.1) = false := beq_eq_false_iff_ne.2 (lt_ne this)
      have := ih (List.pairwise_cons.1 h).2 he'
      unfold findL at this
      rw [hne]
      exact this
theorem lines_down (h : Rig l) : ∀ k : Nat, (nd l k).kind ≠ 0 → ∀ q ∈ (listT l (k : Int)).zip (insideT l (k : Int)), ∃ ns, q.1.path = joinS ns ∧ DownT l ns k q.2 := by
  refine tree_ind h (fun k => ∀ q ∈ (listT l (k : Int)).zip (insideT l (k : Int)), ∃ ns, q.1.path = joinS ns ∧ DownT l ns k q.2) fun k hk ih q hq => ?_
  have hg := (got_nd l k).2 hk
  rw [list_is h hg, inside_is h hg, nodeL_nd hk, List.zip_cons_cons] at hq
  rcases List.mem_cons.1 hq with rfl | hq
  · exact ⟨[], rfl, rfl⟩
  · have hz : ∀ es : List EntL, (∀ e ∈ es, e ∈ (nd l k).names) → q ∈ ((es.flatMap fun e => (listT l e.2).map (underL e.1)).zip (es.flatMap fun e => insideT l e.2)) → ∃ e ∈ es, q ∈ ((listT l e.2).map (underL e.1)).zip (insideT l e.2) := by
      intro es
      induction es with
      | nil => intro _ hq; cases hq
      | cons e es ihe =>
        intro hm hq
        rw [List.flatMap_cons, List.flatMap_cons, List.zip_append (by rw [List.length_map]; exact list_inside h e.2)] at hq
        rcases List.mem_append.1 hq with hq | hq
        · exact ⟨e, List.mem_cons_self, hq⟩
        · obtain ⟨e', he', hq'⟩ := ihe (fun x hx => hm x (List.mem_cons_of_mem _ hx)) hq
          exact ⟨e', List.mem_cons_of_mem _ he', hq'⟩
    obtain ⟨e, he, hq⟩ := hz _ (fun e he => he) hq
    obtain ⟨j, hj, _, hjk⟩ := h.nam k e he
    rw [List.zip_map_left] at hq
    obtain ⟨⟨x, y⟩, hxy, rfl⟩ := List.mem_map.1 hq
    rw [hj] at hxy
    obtain ⟨ns, hp, hd⟩ := ih e he j hj _ hxy
    have hk2 : (nd l k).kind = 2 := (names_lev h (List.ne_nil_of_mem he)).1
    have hle : legalL e.1 = 0 := (h.loc k hk).2.2.2.1 e he
    have hdn : DownT l (e.1 :: ns) k y := ⟨hg, by rw [nodeL_nd hk]; exact hk2, hle, j, by rw [nodeL_nd hk, find_sorted (h.loc k hk).2.2.2.2 he, hj], (got_nd l j).2 hjk, hd⟩
    refine ⟨e.1 :: ns, ?_, hdn⟩
    show (underL e.1 x).path = _
    unfold underL
    dsimp only at hp ⊢
    rw [joinS_cons, hp]
    by_cases e0 : ns = []
    · subst e0; simp [joinS]
    · rw [if_neg (joinS_nil (down_legal ns _ _ hd) e0), if_neg e0]
theorem parts_join : ∀ {ns : List Nm}, (∀ n ∈ ns, legalL n = 0) → ns ≠ [] → parts (joinS ns) = ns := by
  intro ns
  induction ns with
  | nil => intro _ h; exact absurd rfl h
  | cons n ns ih =>
    intro h _
    obtain ⟨h0, h1, _⟩ := legal_parts (h n List.mem_cons_self)
    rw [joinS_cons]
    split
    · rename_i e; subst e; exact parts_one h1 h0
    · rename_i e
      rw [parts_app, parts_one h1 h0, ih (fun x hx => h x (List.mem_cons_of_mem _ hx)) e]
      rfl
theorem joinS_zero : ∀ {ns : List Nm}, (∀ n ∈ ns, legalL n = 0) → (0 : UInt8) ∉ joinS ns := by
  intro ns
  induction ns with
  | nil => intro _ h; cases h
  | cons n ns ih =>
    intro h hm
    obtain ⟨_, _, h2, _⟩ := legal_parts (h n List.mem_cons_self)
    rw [joinS_cons] at hm
    split at hm
    · exact h2 hm
    · rcases List.mem_append.1 hm with hm | hm
      · exact h2 hm
      · rcases List.mem_cons.1 hm with hm | hm
        · cases hm
        · exact ih (fun x hx => h x (List.mem_cons_of_mem _ hx)) hm
theorem check_joinS {ns : List Nm} (h : ∀ n ∈ ns, legalL n = 0) (h0 : ns ≠ []) (hl : (joinS ns).length ≤ 100) : checkE (joinS ns) = 0 := by
  rw [checkE_parts, if_neg (joinS_nil h h0), if_neg (by omega), if_neg (joinS_zero h), parts_join h h0, if_neg]
  intro hc
  obtain ⟨q, hq, hlq⟩ := List.any_eq_true.1 hc
  have := (legal_parts (h q hq)).2.2.2.2.2
  simp at hlq
  omega
theorem joinS_head {ns : List Nm} (h : ∀ n ∈ ns, legalL n = 0) : Lib.hasPrefix (joinS ns) [47] = false := by
  cases ns with
  | nil => rfl
  | cons n ns =>
    obtain ⟨h0, h1, _⟩ := legal_parts (h n List.mem_cons_self)
    cases n with
    | nil => exact absurd rfl h0
    | cons c r =>
      have : c ≠ 47 := fun e => h1 (e ▸ List.mem_cons_self)
      rw [joinS_cons]
      split <;> simp [Lib.hasPrefix, List.isPrefixOf, this.symm]
theorem joinS_tail : ∀ {ns : List Nm}, (∀ n ∈ ns, legalL n = 0) → Lib.hasSuffix (joinS ns) [47] = false := by
  intro ns h
  rw [suffix_one]
  refine decide_eq_false ?_
  revert h
  induction ns with
  | nil => intro _ h; cases h
  | cons n ns ih =>
    intro h e
    obtain ⟨h0, h1, _⟩ := legal_parts (h n List.mem_cons_self)
    rw [joinS_cons] at e
    split at e
    · exact h1 (List.mem_of_getLast? e)
    · rename_i e0
      have hne := joinS_nil (fun x hx => h x (List.mem_cons_of_mem _ hx)) e0
      refine ih (fun x hx => h x (List.mem_cons_of_mem _ hx)) ?_
      rw [List.getLast?_append] at e
      cases hj : joinS ns with
      | nil => exact absurd hj hne
      | cons c r => rw [hj] at e; simpa [List.getLast?_cons] using e
theorem down_go : ∀ (ns : List Nm) (n : Nm) (i j : Int) (hops : Nat), DownT l (n :: ns) i j → ∃ i' n', goW l 0 false false i (n :: ns) hops = (⟨i', n', j, false⟩, 0) := by
  intro ns
  induction ns with
  | nil =>
    rintro n i j hops ⟨hg, h2, hl, c, hf, hgc, hd⟩
    obtain rfl : c = j := hd
    obtain ⟨_, _, _, q1, q2, _⟩ := legal_parts hl
    have hlook : lookL l i n = c := by unfold lookL; rw [if_neg q1, if_neg q2, hf]; rfl
    have hpos : ¬ lookL l i n < 0 := by rw [hlook]; have := got_le hgc; omega
    rw [go_spot (got_dir hg h2) (may_super l i) hpos (by simp) rfl (by simp), hlook]
    exact ⟨_, _, rfl⟩
  | cons m ns ih =>
    rintro n i j hops ⟨hg, h2, hl, c, hf, hgc, hd⟩
    obtain ⟨_, _, _, q1, q2, _⟩ := legal_parts hl
    have hlook : lookL l i n = c := by unfold lookL; rw [if_neg q1, if_neg q2, hf]; rfl
    have hpos : ¬ lookL l i n < 0 := by rw [hlook]; have := got_le hgc; omega
    have hc2 : (nodeL l c).kind = 2 := hd.2.1
    rw [go_on (got_dir hg h2) (may_super l i) hpos (by rw [hlook, hc2]; decide) (by simp), hlook]
    exact ih m c j hops hd
theorem down_walk {ns : List Nm} {i j : Int} (hd : DownT l ns i j) (h0 : ns ≠ []) (hl : (joinS ns).length ≤ 100) (hj : 0 ≤ j) : wnodeL (walkL l 0 i (joinS ns) false) = (j, 0) := by
  have hle := down_legal ns i j hd
  have hfirst : firstAt i (joinS ns) = i := by unfold firstAt; rw [joinS_head hle]; rfl
  unfold walkL
  rw [check_joinS hle h0 hl, if_neg (by simp), parts_join hle h0, if_neg h0, joinS_tail hle, hfirst]
  cases ns with
  | nil => exact absurd rfl h0
  | cons n ns =>
    obtain ⟨i', n', e⟩ := down_go ns n i j 0 hd
    rw [e]
    unfold wnodeL
    rw [if_neg (by simp), if_neg (by show ¬ j < 0; omega)]
theorem law_lines (h : Rig l) {i : Int} {a : Nat} (ha : a < (listT l i).length) (hb : a < (insideT l i).length) (hl : (listT l i)[a].path.length ≤ 100) (h1 : 0 < a) : wnodeL (walkL l 0 i (listT l i)[a].path false) = ((insideT l i)[a], 0) := by
  cases hg : gotB l i with
  | false => exfalso; rw [list_no hg] at ha; exact absurd ha (by simp)
  | true =>
    obtain ⟨k, rfl, _, hk⟩ := got_nat hg
    have hm : ((listT l (k : Int))[a], (insideT l (k : Int))[a]) ∈ (listT l (k : Int)).zip (insideT l (k : Int)) := by
      rw [← List.getElem_zip (i := a) (h := by rw [List.length_zip]; omega)]
      exact List.getElem_mem _
    obtain ⟨ns, hp, hd⟩ := lines_down h k hk _ hm
    dsimp only at hp hd
    have hgj := got_le (inside_all h _ (List.getElem_mem hb))
    by_cases h0 : ns = []
    · exfalso
      subst h0
      have hkj : (k : Int) = (insideT l (k : Int))[a] := hd
      have hlen : 0 < (insideT l (k : Int)).length := by omega
      have h00 : (insideT l (k : Int))[0] = k := by
        have := inside_is h hg
        simp only [this, List.getElem_cons_zero]
      have hne := once h hb hlen h1 (by rw [h00]; exact hkj)
      rw [← hkj, nodeL_nd hk] at hne
      rw [inside_is h hg, nodeL_nd hk, (h.loc k hk).2.1 hne] at hb
      simp at hb
      omega
    · rw [hp] at hl ⊢
      exact down_walk hd h0 hl hgj.1
theorem line_top (h : Rig l) {i : Int} (ha : 0 < (listT l i).length) : ((listT l i)[0]).path = [] ∧ (insideT l i)[0]? = some i := by
  cases hg : gotB l i with
  | false => exfalso; rw [list_no hg] at ha; exact absurd ha (by simp)
  | true =>
    have h1 := list_is h hg
    have h2 := inside_is h hg
    refine ⟨?_, by rw [h2]; rfl⟩
    simp only [h1, List.getElem_cons_zero]
    rfl
end
end Go.Proofs.YtilhiafmljmljaaDoor
namespace Go.Proofs.YtilhiafmljmljaaDoor
open Go.RowKit Go.Shelf
attribute [local go_sem ↓] Go.wp_at_zero Go.wp_at_succ
def smallB (l : List NodeL) : Bool := decide (l.length ≤ 100) && l.all fun n => decide (n.data.length ≤ 300) && decide (n.names.length ≤ 60)
def rightQ (l : List NodeL) (most room : Int) : Bool := smallB l && rightR l most room
theorem small_B {l : List NodeL} (h : smallB l = true) : Small l := by
  unfold smallB at h
  simp only [Bool.and_eq_true, decide_eq_true_iff, List.all_eq_true] at h
  exact ⟨by omega, fun n hn => ⟨(h.2 n hn).1, by have := (h.2 n hn).2; omega⟩⟩
def TinyTo (l : List NodeL) (k : Nat) : Prop := (l.take k).all (fun n => decide (n.data.length ≤ 300) && decide (n.names.length ≤ 60)) = true
theorem tiny_succ {l : List NodeL} {k : Nat} (h : TinyTo l k) (hk : k < l.length) (h1 : l[k].data.length ≤ 300) (h2 : l[k].names.length ≤ 60) : TinyTo l (k + 1) := by
  unfold TinyTo at h ⊢
  rw [List.take_succ_eq_append_getElem hk, List.all_append, h]
  simp [h1, h2]
theorem tiny_bad {l : List NodeL} {k : Nat} (hk : k < l.length) (h : 300 < l[k].data.length ∨ 60 < l[k].names.length) : smallB l = false := by
  unfold smallB
  rw [Bool.and_eq_false_iff]
  refine .inr ?_
  rw [List.all_eq_false]
  refine ⟨l[k], List.getElem_mem hk, ?_⟩
  simp only [Bool.and_eq_true, decide_eq_true_iff]
  omega
theorem tiny_end {l : List NodeL} (h : TinyTo l l.length) (hl : l.length ≤ 100) : smallB l = true := by
  unfold TinyTo at h
  rw [List.take_length] at h
  unfold smallB
  rw [h, decide_eq_true hl]
  rfl
theorem much_bad {l : List NodeL} (hl : 100 < l.length) : smallB l = false := by
  unfold smallB
  rw [decide_eq_false (by omega)]
  rfl
theorem small_len {ms : List NodeM} (h : Small (pl ms)) : ms.length ≤ 110 := by have := h.1; rwa [pl_len] at this
theorem small_names {l : List NodeL} (h : Small l) : ∀ n ∈ l, n.names.length ≤ 10000 := fun n hn => by have := (h.2 n hn).2; omega
theorem small_data {l : List NodeL} (h : Small l) : ∀ n ∈ l, n.data.length ≤ 10000 := fun n hn => by have := (h.2 n hn).1; omega
theorem diskW {ms : List NodeM} {most room : Int} (h : rightQ (pl ms) most room = true) : DskW ms := by
  unfold rightQ at h
  rw [Bool.and_eq_true] at h
  have hs := small_B h.1
  exact ⟨⟨Nat.le_trans (small_len hs) (by decide), small_names hs, ⟨most, room, h.2⟩⟩, small_data hs⟩
set_option maxRecDepth 100000 in
set_option maxHeartbeats 4000000 in
theorem right_q (v : Value) (ms : List NodeM) (most room : Int) (w : World) (hv : RdM w.heap.size v ms w) (hfit : FitD (pl ms)) :
    Calls Tryd.prog 4 #[.agg #[v, .int .i64 most, .int .i64 room]] w fun e w' => e = .returned (.bool (rightQ (pl ms) most room)) ∧ Below w.heap.size w w' := by
  obtain ⟨ao, cap, rfl, _, _⟩ := rdm_form hv
  have hb0 : Below w.heap.size w (w.alloc (.cells #[.slice ao ms.length cap, .int .i64 most, .int .i64 room] 24)) := (Below.refl _ w).alloc (Nat.le_refl _) _
  have HV := Lib.hid (hv.below hb0)
  have HV0 := Lib.hid hv
  have HFit := Lib.hid hfit
  clear hv hfit
  go_enter Tryd.func4, Tryd.ntmps4
  go_wp2_with fail
  go_loop [3] (fun i => ∃ k : Nat, i = .int .i64 k ∧ k ≤ ms.length ∧ k ≤ 110 ∧ Hid (TinyTo (pl ms) k)) (fun i => ms.length - (intOf i).toNat)
  case atStart => exact ⟨0, rfl, Nat.zero_le _, by decide, Lib.hid rfl⟩
  case round =>
    obtain ⟨k, rfl, hk, hk2, hN⟩ := hrel
    by_cases hlt : k < ms.length ∧ k < 110
    · obtain ⟨hlt, h110⟩ := hlt
      obtain ⟨b, off, n, aon, capn, rfl, hb, hn, -, -, c0, c1, c2, c3, c4, c5, c6, c7⟩ := node_at HV.out k hlt
      have hI : decide (k < ms.length) = true := by simpa using hlt
      have hI2 : decide ((k : Int) < 110) = true := by simp; omega
      by_cases hd : 300 < n.data.length
      · have hJ : decide ((300 : Int) < (n.data.length : Int)) = true := by simp; omega
        have HB : Hid (rightQ (pl ms) most room = false) := Lib.hid (by unfold rightQ; rw [tiny_bad (l := pl ms) (k := k) (by rw [pl_len]; exact hlt) (by rw [hn]; exact .inl hd)]; rfl)
        clear hn hd
        go_wp2_with fail
        go_ret
        exact ⟨ret_bool HB.out.symm, hb0⟩
      · have hJ : decide ((300 : Int) < (n.data.length : Int)) = false := by simp; omega
        by_cases hm : 60 < n.names.length
        · have hJ2 : decide ((60 : Int) < (n.names.length : Int)) = true := by simp; omega
          have HB : Hid (rightQ (pl ms) most room = false) := Lib.hid (by unfold rightQ; rw [tiny_bad (l := pl ms) (k := k) (by rw [pl_len]; exact hlt) (by rw [hn]; exact .inr hm)]; rfl)
          clear hn hd hm
          go_wp2_with fail
          go_ret
          exact ⟨ret_bool HB.out.symm, hb0⟩
        · have hJ2 : decide ((60 : Int) < (n.names.length : Int)) = false := by simp; omega
          have HN := Lib.hid (tiny_succ hN.out (by rw [pl_len]; exact hlt) (by rw [hn]; omega) (by rw [hn]; omega))
          clear hn hd hm
          go_wp2_with fail
          go_round
          case rel => exact ⟨k + 1, by go_num, hlt, h110, HN⟩
          case measure => simp [intOf]; omega
    · by_cases hbig : 100 < ms.length
      · have HB : Hid (rightQ (pl ms) most room = false) := Lib.hid (by unfold rightQ; rw [much_bad (by rw [pl_len]; exact hbig)]; rfl)
        have hg : decide ((ms.length : Int) ≤ 100) = false := decide_eq_false (by omega)
        have hx : (decide (k < ms.length) = false) ∨ (decide (k < ms.length) = true ∧ decide ((k : Int) < 110) = false) := by
          by_cases h : k < ms.length
          · exact .inr ⟨by simpa using h, decide_eq_false (by omega)⟩
          · exact .inl (by simpa using h)
        clear hlt hbig
        rcases hx with hI | ⟨hI, hI2⟩
        · go_wp2_with fail
          go_ret
          exact ⟨ret_bool HB.out.symm, hb0⟩
        · go_wp2_with fail
          go_ret
          exact ⟨ret_bool HB.out.symm, hb0⟩
      · have hke : k = ms.length := by omega
        have hsm : smallB (pl ms) = true := tiny_end (by have := hN.out; rwa [hke, ← pl_len] at this) (by rw [pl_len]; omega)
        have HSm := Lib.hid (small_B hsm)
        have HE : Hid (rightQ (pl ms) most room = rightR (pl ms) most room) := Lib.hid (by unfold rightQ; rw [hsm]; rfl)
        have hg : decide ((ms.length : Int) ≤ 100) = true := decide_eq_true (by omega)
        have hI2 : decide (k < ms.length) = false := decide_eq_false (by omega)
        have hl : ms.length ≤ 10000 := by omega
        clear hlt hke hsm
        go_wp2_with fail
        refine calls_fresh1 ?_
        intro W0 hb1 hP hs1
        refine (its_any (.slice ao ms.length cap) ms most room W0 (rdm_keep HV0.out hb1) hl (small_names HSm.out)).mono ?_
        rintro e W2 ⟨v2, rfl, ⟨m2, hm2, hr2⟩, hb2⟩
        have hB2 := ret_tr hb1 hb2
        have hrr := rright_any v2 m2 most room W2 hr2 (by rw [hm2]; exact HSm.out) (by rw [hm2]; exact HFit.out)
        rw [hm2, ← HE.out] at hrr
        have HRR := Lib.hid hrr
        clear hrr hr2 hm2 hb1 hb2 hP
        go_wp2_with fail
        refine HRR.out.mono ?_
        rintro e W3 ⟨rfl, hb3⟩
        go_wp2_with fail
        go_ret
        exact ⟨rfl, ret_tr hB2 hb3⟩
theorem its_g (l : List NodeL) (a b : Int) (hl : l.length ≤ 10000) (hnl : ∀ n ∈ l, n.names.length ≤ 10000) (v : Value) (W : World) (hg : GivesN l v W) :
    Calls Tryd.prog 10 #[.agg #[v, .int .i64 a, .int .i64 b]] W fun e w' => ∃ v', e = .returned (.agg #[v', .int .i64 a, .int .i64 b]) ∧ GivesN l v' w' ∧ Below W.heap.size W w' := by
  obtain ⟨m, rfl, h⟩ := hg
  exact its_any v m a b W h (by rw [← pl_len]; exact hl) hnl
end Go.Proofs.YtilhiafmljmljaaDoor
namespace Go.Proofs.YtilhiafmljmljaaDoor
open Go.RowKit Go.Shelf
attribute [local go_sem ↓] Go.wp_at_zero Go.wp_at_succ
theorem tree_d {l : List NodeL} {most room : Int} (h : rightQ l most room = true) (hf : FitD l) : TreeD l most room := by
  unfold rightQ at h
  rw [Bool.and_eq_true] at h
  have hs := h.1
  unfold smallB at hs
  simp only [Bool.and_eq_true, decide_eq_true_iff, List.all_eq_true] at hs
  have hr : RightP l := ⟨most, room, h.2⟩
  have hg := ((right_iff l most room).1 h.2).1
  refine ⟨⟨hg, by omega, fun n hn => by have := (hs.2 n hn).2; omega, Rig.legal hr, fun i => ?_⟩, small_B h.1, hf, h.2⟩
  have h1 := len_inside hg (c := 60) (fun n hn => (hs.2 n hn).2) i
  rw [list_inside hg]
  have h2 := Nat.mul_le_mul_right 60 hs.1
  omega
theorem top_len {l : List NodeL} (h : Rig l) (i : Int) : (plcT l i).length = (listT l i).length := by rw [← top_line h i, List.length_map]
theorem list_g (l : List NodeL) (most room i : Int) (h : TreeOk l) (v : Value) (w : World) (hg : GivesN l v w) :
    Calls Tryd.prog 6 #[.agg #[v, .int .i64 most, .int .i64 room], .int .i64 i] w fun e w' => ∃ ao cap, e = .returned (.slice ao (listT l i).length cap) ∧ Rd w'.heap.size 4 (.slice ao (listT l i).length cap) (listT l i).length (linesC (listT l i)) w' ∧ Below w.heap.size w w' := by
  obtain ⟨ms, rfl, hv⟩ := hg
  obtain ⟨ao, cap, rfl, _, _⟩ := rdm_form hv
  have hml : ms.length ≤ 1000 := by have := h.len; rwa [pl_len] at this
  refine (list_c most room i w hv hml h.nam h.nm (by rw [top_len h.rig]; exact h.many i)).mono ?_
  rw [top_line h.rig, top_len h.rig]
  rintro e w2 ⟨v2, rfl, ho, hb⟩
  obtain ⟨ao2, cap2, rfl⟩ := own_form ho
  exact ⟨ao2, cap2, rfl, Rd.own ho (Nat.le_refl _), hb⟩
theorem inside_g (l : List NodeL) (most room i : Int) (h : TreeOk l) (v : Value) (w : World) (hg : GivesN l v w) :
    Calls Tryd.prog 7 #[.agg #[v, .int .i64 most, .int .i64 room], .int .i64 i] w fun e w' => ∃ ao cap, e = .returned (.slice ao (insideT l i).length cap) ∧ Rd w'.heap.size 1 (.slice ao (insideT l i).length cap) (insideT l i).length (intsC (insideT l i)) w' ∧ Below w.heap.size w w' := by
  obtain ⟨ms, rfl, hv⟩ := hg
  obtain ⟨ao, cap, rfl, _, _⟩ := rdm_form hv
  have hml : ms.length ≤ 1000 := by have := h.len; rwa [pl_len] at this
  refine (inside_c most room i w hv hml h.nam h.nm (by rw [top_len h.rig]; exact h.many i)).mono ?_
  rw [top_ino h.rig, top_len h.rig, list_inside h.rig]
  rintro e w2 ⟨v2, rfl, ho, hb⟩
  obtain ⟨ao2, cap2, rfl⟩ := own_form ho
  exact ⟨ao2, cap2, rfl, Rd.own ho (Nat.le_refl _), hb⟩
theorem its_gn (l : List NodeL) (h : TreeOk l) (most room : Int) (v : Value) (w : World) (hg : GivesN l v w) :
    Calls Tryd.prog 10 #[.agg #[v, .int .i64 most, .int .i64 room]] w fun e w' => ∃ ao cap, e = .returned (.agg #[.slice ao l.length cap, .int .i64 most, .int .i64 room]) ∧ GivesN l (.slice ao l.length cap) w' ∧ Below w.heap.size w w' := by
  refine (its_g l most room (by have := h.len; omega) h.nam v w hg).mono ?_
  rintro e w2 ⟨v2, rfl, ⟨m, hm, hv⟩, hb⟩
  obtain ⟨ao, cap, rfl, _, _⟩ := rdm_form hv
  subst hm
  exact ⟨ao, cap, by rw [pl_len], ⟨m, rfl, by rw [pl_len]; exact hv⟩, hb⟩
end Go.Proofs.YtilhiafmljmljaaDoor
namespace Go.Proofs.YtilhiafmljmljaaDoor
open Go.RowKit Go.Shelf
abbrev ErrG (W : World) : Prop := W.cell? ⟨0, 0, none⟩ = some errTypeV
theorem errG_keep {W W' : World} (h : ErrG W) (hb : Below W.heap.size W W') : ErrG W' := (hb.cell (p := ⟨0, 0, none⟩) (World.block_lt_of_cell? W _ h)).trans h
theorem wnode_g (l : List NodeL) (hl : ∀ ms, pl ms = l → DskW ms) (a b who fr : Int) (path : Str) (follow : Bool) (hpl : path.length ≤ 10000) (v : Value) (W : World) (hg : GivesN l v W) (he : ErrG W) :
    Calls Tryd.prog 8 #[.agg #[v, .int .i64 a, .int .i64 b], .int .i64 who, .int .i64 fr, .string (bs path), .bool follow] W fun e w' => WNodeIs (walkL l who fr path follow) e W w' := by
  obtain ⟨m, rfl, h⟩ := hg
  exact wnode_any v m a b who fr path follow W h (hl m rfl) hpl he
theorem rnode_g (l : List NodeL) (hl : ∀ ms, pl ms = l → DskW ms) (a b who fr : Int) (path : Str) (follow : Bool) (hpl : path.length ≤ 10000) (v : Value) (W : World) (hg : GivesN l v W) :
    Calls Tryd.prog 9 #[.agg #[v, .int .i64 a, .int .i64 b], .int .i64 who, .int .i64 fr, .string (bs path), .bool follow] W fun e w' => WNodeIs (walkL l who fr path follow) e W w' := by
  obtain ⟨m, rfl, h⟩ := hg
  exact rnode_any v m a b who fr path follow W h (hl m rfl) hpl
theorem diskW' {l : List NodeL} {most room : Int} (h : rightQ l most room = true) : ∀ ms, pl ms = l → DskW ms := fun ms e => diskW (most := most) (room := room) (by rw [e]; exact h)
end Go.Proofs.YtilhiafmljmljaaDoor
