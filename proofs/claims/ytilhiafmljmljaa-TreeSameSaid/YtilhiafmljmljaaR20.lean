import Derived.Test.YtilhiafmljmljaaR17
import Derived.Test.YtilhiafmljmljaaR14
namespace Go.Proofs.Ytilhiafmljmljaa
open Go.RowKit
section
variable {l : List NodeL}
theorem maxN_le {ns : List Nat} {m : Nat} (h : ∀ x ∈ ns, x ≤ m) : maxN ns ≤ m := by
  have : ∀ (ns : List Nat) (a : Nat), a ≤ m → (∀ x ∈ ns, x ≤ m) → ns.foldl max a ≤ m := by
    intro ns
    induction ns with
    | nil => intro a ha _; exact ha
    | cons n ns ih => intro a ha h; exact ih _ (by have := h n List.mem_cons_self; omega) fun x hx => h x (List.mem_cons_of_mem _ hx)
  exact this ns 0 (Nat.zero_le _) h
theorem depth_one (h : Rig l) {i : Int} (hg : gotB l i = true) (hn : (nodeL l i).names = []) : depthT l i = 1 := by rw [depth_is h hg, hn]; rfl
theorem depth_lev (h : Rig l) : ∀ k : Nat, (nd l k).kind ≠ 0 → ∀ d, Lev l d k → depthT l (k : Int) + d ≤ usedL l := by
  refine tree_ind h (fun k => ∀ d, Lev l d k → depthT l (k : Int) + d ≤ usedL l) fun k hk ih d hl => ?_
  have hg := (got_nd l k).2 hk
  rw [depth_is h hg, nodeL_nd hk]
  by_cases hn : (nd l k).names = []
  · rw [hn]; have := lev_used h hl; simp [maxN]; omega
  · have hd : d + 2 ≤ usedL l := by
      obtain ⟨e, he⟩ := List.exists_mem_of_ne_nil _ hn
      exact child_used h hl he
    have : maxN ((nd l k).names.map fun e => depthT l e.2) ≤ usedL l - d - 1 := maxN_le fun x hx => by
      obtain ⟨e, he, rfl⟩ := List.mem_map.1 hx
      obtain ⟨j, hj, _, hjk⟩ := h.nam k e he
      rw [hj]
      by_cases h2 : (nd l j).kind = 2
      · have := ih e he j hj (d + 1) (child_lev h hl he hj h2)
        omega
      · rw [depth_one h ((got_nd l j).2 hjk) (by rw [nodeL_nd hjk]; exact (h.loc j hjk).2.1 h2)]
        omega
    omega
theorem depth_used (h : Rig l) (i : Int) : depthT l i ≤ usedL l := by
  cases hg : gotB l i with
  | false => rw [depth_no hg]; exact Nat.zero_le _
  | true =>
    obtain ⟨k, rfl, _, hk⟩ := got_nat hg
    by_cases hn : (nd l k).names = []
    · rw [depth_one h hg (by rw [nodeL_nd hk]; exact hn)]; exact got_used hg
    · obtain ⟨d, hd⟩ := (names_lev h hn).2
      have := depth_lev h k hk d hd
      omega
theorem root_le {f g : Nat} {j : Int} (h : rootR l f j = true) (hfg : f ≤ g) : rootR l g j = true := by
  induction g with
  | zero => obtain rfl : f = 0 := by omega
            exact h
  | succ g ih =>
    by_cases e : f = g + 1
    · rw [← e]; exact h
    · exact rootR_mono l _ _ (ih (by omega))
theorem lev_uniq {a b j : Nat} (ha : Lev l a j) (hb : Lev l b j) : a = b := by
  rcases Nat.lt_trichotomy a b with h | h | h
  · have := root_le ha.1 (show a + 1 ≤ b by omega); rw [hb.2] at this; cases this
  · exact h
  · have := root_le hb.1 (show b + 1 ≤ a by omega); rw [ha.2] at this; cases this
def ancI (l : List NodeL) : Nat → Int → Int
  | 0, j => j
  | m + 1, j => (atI l (ancI l m j)).up
theorem inside_got (h : Rig l) : ∀ k : Nat, (nd l k).kind ≠ 0 → ∀ x ∈ insideT l (k : Int), ∃ j : Nat, x = j ∧ (nd l j).kind ≠ 0 := by
  refine tree_ind h (fun k => ∀ x ∈ insideT l (k : Int), ∃ j : Nat, x = j ∧ (nd l j).kind ≠ 0) fun k hk ih x hx => ?_
  rw [inside_is h ((got_nd l k).2 hk), nodeL_nd hk] at hx
  rcases List.mem_cons.1 hx with rfl | hx
  · exact ⟨k, rfl, hk⟩
  · obtain ⟨e, he, hx⟩ := List.mem_flatMap.1 hx
    obtain ⟨j, hj, _, _⟩ := h.nam k e he
    rw [hj] at hx
    exact ih e he j hj x hx
theorem inside_up (h : Rig l) : ∀ k : Nat, (nd l k).kind ≠ 0 → ∀ d, Lev l d k → ∀ j : Nat, (j : Int) ∈ insideT l (k : Int) → (nd l j).kind = 2 → ∃ m, Lev l (d + m) j ∧ ancI l m j = k := by
  refine tree_ind h (fun k => ∀ d, Lev l d k → ∀ j : Nat, (j : Int) ∈ insideT l (k : Int) → (nd l j).kind = 2 → ∃ m, Lev l (d + m) j ∧ ancI l m j = k) fun k hk ih d hl j hj h2 => ?_
  rw [inside_is h ((got_nd l k).2 hk), nodeL_nd hk] at hj
  rcases List.mem_cons.1 hj with hj | hj
  · obtain rfl : j = k := by omega
    exact ⟨0, hl, rfl⟩
  · obtain ⟨e, he, hj⟩ := List.mem_flatMap.1 hj
    obtain ⟨c, hc, _, hck⟩ := h.nam k e he
    rw [hc] at hj
    by_cases hc2 : (nd l c).kind = 2
    · obtain ⟨m, hm, ha⟩ := ih e he c hc (d + 1) (child_lev h hl he hc hc2) j hj h2
      refine ⟨m + 1, by rw [show d + (m + 1) = d + 1 + m by omega]; exact hm, ?_⟩
      show (atI l (ancI l m j)).up = k
      rw [ha, at_nd]
      exact (child_up h he hc hc2).2.1
    · rw [inside_is h ((got_nd l c).2 hck), nodeL_nd hck, (h.loc c hck).2.1 hc2] at hj
      have : j = c := by simp at hj; omega
      rw [this] at h2
      exact absurd h2 hc2
def dirI (l : List NodeL) (x : Int) : Bool := decide ((nodeL l x).kind = 2)
theorem cnt_two {es : List EntL} {c : Int} : ∀ {i j : Nat} (hi : i < es.length) (hj : j < es.length), i < j → es[i].2 = c → es[j].2 = c → 2 ≤ cntN es c := by
  induction es with
  | nil => intro i j hi; exact absurd hi (by simp)
  | cons e es ih =>
    intro i j hi hj hij h1 h2
    obtain ⟨j, rfl⟩ : ∃ j', j = j' + 1 := ⟨j - 1, by omega⟩
    have hjm : ∃ x ∈ es, x.2 = c := ⟨_, List.getElem_mem (by simpa using hj), by simpa using h2⟩
    have hp := cntN_pos.2 hjm
    have he : cntN (e :: es) c = cntN es c + if e.2 = c then 1 else 0 := by unfold cntN; rw [List.countP_cons]; simp
    cases i with
    | zero =>
      have : e.2 = c := by simpa using h1
      rw [he, if_pos this]; omega
    | succ i =>
      have := ih (i := i) (j := j) (by simpa using hi) (by simpa using hj) (by omega) (by simpa using h1) (by simpa using h2)
      rw [he]; omega
theorem inside_once (h : Rig l) : ∀ k : Nat, (nd l k).kind ≠ 0 → ((insideT l (k : Int)).filter (dirI l)).Nodup := by
  refine tree_ind h (fun k => ((insideT l (k : Int)).filter (dirI l)).Nodup) fun k hk ih => ?_
  have hg := (got_nd l k).2 hk
  by_cases hn : (nd l k).names = []
  · rw [inside_is h hg, nodeL_nd hk, hn]
    show ([(k : Int)].filter (dirI l)).Nodup
    exact List.Nodup.sublist List.filter_sublist (by simp)
  obtain ⟨h2, d, hl⟩ := names_lev h hn
  rw [inside_is h hg, nodeL_nd hk]
  have hdir : ∀ j : Nat, (nd l j).kind ≠ 0 → dirI l (j : Int) = true → (nd l j).kind = 2 := fun j hj hd => by
    unfold dirI at hd
    rw [nodeL_nd hj] at hd
    exact of_decide_eq_true hd
  have sub : ∀ e ∈ (nd l k).names, ∀ x, x ∈ (insideT l e.2).filter (dirI l) → ∃ c j m : Nat, e.2 = c ∧ x = j ∧ (nd l c).kind = 2 ∧ Lev l (d + 1 + m) j ∧ ancI l m j = c := by
    intro e he x hx
    obtain ⟨hx, hxd⟩ := List.mem_filter.1 hx
    obtain ⟨c, hc, _, hck⟩ := h.nam k e he
    rw [hc] at hx
    obtain ⟨j, rfl, hjk⟩ := inside_got h c hck x hx
    have hj2 := hdir j hjk hxd
    by_cases hc2 : (nd l c).kind = 2
    · obtain ⟨m, hm, ha⟩ := inside_up h c hck (d + 1) (child_lev h hl he hc hc2) j hx hj2
      exact ⟨c, j, m, hc, rfl, hc2, hm, ha⟩
    · rw [inside_is h ((got_nd l c).2 hck), nodeL_nd hck, (h.loc c hck).2.1 hc2] at hx
      have : j = c := by simp at hx; omega
      rw [this] at hj2
      exact absurd hj2 hc2
  have htop : (List.filter (dirI l) ((k : Int) :: (nd l k).names.flatMap fun e => insideT l e.2)) = (k : Int) :: (nd l k).names.flatMap fun e => (insideT l e.2).filter (dirI l) := by
    rw [List.filter_cons, if_pos (by unfold dirI; rw [nodeL_nd hk, h2]; rfl), List.filter_flatMap]
  rw [htop, List.nodup_cons]
  refine ⟨fun hm => ?_, ?_⟩
  · obtain ⟨e, he, hx⟩ := List.mem_flatMap.1 hm
    obtain ⟨c, j, m, _, hkj, _, hm', _⟩ := sub e he _ hx
    obtain rfl : k = j := by omega
    have := lev_uniq hl hm'
    omega
  · show List.Pairwise (· ≠ ·) _
    rw [List.pairwise_flatMap]
    refine ⟨fun e he => ?_, ?_⟩
    · obtain ⟨c, hc, _, hck⟩ := h.nam k e he
      rw [hc]
      exact ih e he c hc
    · rw [List.pairwise_iff_getElem]
      intro i j hi hj hij x hx y hy hxy
      subst hxy
      obtain ⟨c1, j1, m1, e1, rfl, g1, l1, a1⟩ := sub _ (List.getElem_mem hi) _ hx
      obtain ⟨c2, j2, m2, e2, ej, g2, l2, a2⟩ := sub _ (List.getElem_mem hj) _ hy
      obtain rfl : j1 = j2 := by omega
      have := lev_uniq l1 l2
      obtain rfl : m1 = m2 := by omega
      have hcc : c1 = c2 := by rw [a1] at a2; omega
      subst hcc
      have h22 := cnt_two hi hj hij e1 e2
      have h1 := (child_up h (List.getElem_mem hi) e1 g1).2.2
      have := cnt_ge (l := l) k (c1 : Int)
      omega
theorem once (h : Rig l) {i : Int} {a b : Nat} (ha : a < (insideT l i).length) (hb : b < (insideT l i).length) (hab : b < a) (he : (insideT l i)[b] = (insideT l i)[a]) : (nodeL l (insideT l i)[a]).kind ≠ 2 := by
  intro h2
  cases hg : gotB l i with
  | false => rw [inside_no hg] at ha; exact absurd ha (by simp)
  | true =>
    obtain ⟨k, rfl, _, hk⟩ := got_nat hg
    have hnd : List.Pairwise (· ≠ ·) ((insideT l (k : Int)).filter (dirI l)) := inside_once h k hk
    rw [List.pairwise_filter, List.pairwise_iff_getElem] at hnd
    have hd : dirI l (insideT l (k : Int))[a] = true := by unfold dirI; rw [h2]; rfl
    exact hnd b a hb ha hab (by rw [he]; exact hd) hd he
theorem inside_all (h : Rig l) {i : Int} : ∀ x ∈ insideT l i, gotB l x = true := by
  cases hg : gotB l i with
  | false => rw [inside_no hg]; intro x hx; cases hx
  | true =>
    obtain ⟨k, rfl, _, hk⟩ := got_nat hg
    intro x hx
    obtain ⟨j, rfl, hj⟩ := inside_got h k hk x hx
    exact (got_nd l j).2 hj
def wN (l : List NodeL) (x : Int) : Nat := (nodeL l x).names.length
theorem len_sum (h : Rig l) : ∀ k : Nat, (nd l k).kind ≠ 0 → (insideT l (k : Int)).length = 1 + ((insideT l (k : Int)).map (wN l)).sum := by
  refine tree_ind h (fun k => (insideT l (k : Int)).length = 1 + ((insideT l (k : Int)).map (wN l)).sum) fun k hk ih => ?_
  have hg := (got_nd l k).2 hk
  rw [inside_is h hg, nodeL_nd hk, List.length_cons, List.map_cons, List.sum_cons]
  have hw : wN l (k : Int) = (nd l k).names.length := by unfold wN; rw [nodeL_nd hk]
  have : ∀ es : List EntL, (∀ e ∈ es, e ∈ (nd l k).names) → (es.flatMap fun e => insideT l e.2).length = es.length + ((es.flatMap fun e => insideT l e.2).map (wN l)).sum := by
    intro es
    induction es with
    | nil => intro _; rfl
    | cons e es ihe =>
      intro hm
      obtain ⟨j, hj, _, _⟩ := h.nam k e (hm e List.mem_cons_self)
      have h1 := ih e (hm e List.mem_cons_self) j hj
      rw [← hj] at h1
      have h2 := ihe fun x hx => hm x (List.mem_cons_of_mem _ hx)
      rw [List.flatMap_cons, List.length_append, List.map_append, List.sum_append, List.length_cons]
      omega
  have := this _ fun e he => he
  rw [hw]
  omega
theorem sum_filter (p : Int → Bool) (g : Int → Nat) (c : Nat) : ∀ L : List Int, (∀ x ∈ L, p x = false → g x = 0) → (∀ x ∈ L, g x ≤ c) → (L.map g).sum ≤ (L.filter p).length * c := by
  intro L
  induction L with
  | nil => intro _ _; simp
  | cons a L ih =>
    intro h0 hc
    have h1 := ih (fun x hx => h0 x (List.mem_cons_of_mem _ hx)) fun x hx => hc x (List.mem_cons_of_mem _ hx)
    rw [List.map_cons, List.sum_cons, List.filter_cons]
    cases hp : p a with
    | true =>
      have := hc a List.mem_cons_self
      rw [if_pos rfl, List.length_cons, Nat.add_mul]
      omega
    | false =>
      have := h0 a List.mem_cons_self hp
      rw [if_neg (by decide)]
      omega
theorem len_inside (h : Rig l) {c : Nat} (hc : ∀ n ∈ l, n.names.length ≤ c) (i : Int) : (insideT l i).length ≤ 1 + l.length * c := by
  cases hg : gotB l i with
  | false => rw [inside_no hg]; exact Nat.zero_le _
  | true =>
    obtain ⟨k, rfl, _, hk⟩ := got_nat hg
    rw [len_sum h k hk]
    have hall := inside_all h (i := (k : Int))
    have h1 := sum_filter (dirI l) (wN l) c (insideT l (k : Int)) (fun x hx hd => by
      unfold dirI at hd
      unfold wN
      rw [names_dir h (hall x hx) (of_decide_eq_false hd)]
      rfl) fun x hx => by
      obtain ⟨j, rfl, hjl, hj⟩ := got_nat (hall x hx)
      unfold wN
      rw [nodeL_nd hj, nd_lt hjl]
      exact hc _ (List.getElem_mem hjl)
    have h2 : ((insideT l (k : Int)).filter (dirI l)).length ≤ l.length := by
      have hnd := inside_once h k hk
      have := pigeon l.length (((insideT l (k : Int)).filter (dirI l)).map Int.toNat) ?_ ?_
      · rwa [List.length_map] at this
      · show List.Pairwise (· ≠ ·) _
        rw [List.pairwise_map]
        refine List.Pairwise.imp_of_mem ?_ hnd
        intro x y hx hy hne he
        obtain ⟨a, rfl, _, _⟩ := got_nat (hall x (List.mem_filter.1 hx).1)
        obtain ⟨b, rfl, _, _⟩ := got_nat (hall y (List.mem_filter.1 hy).1)
        exact hne (by have : a = b := by simpa using he
                      rw [this])
      · intro x hx
        obtain ⟨y, hy, rfl⟩ := List.mem_map.1 hx
        obtain ⟨a, rfl, ha, _⟩ := got_nat (hall y (List.mem_filter.1 hy).1)
        simpa using ha
    have h3 := Nat.mul_le_mul_right c h2
    omega
end
end Go.Proofs.Ytilhiafmljmljaa
namespace Go.Proofs.Ytilhiafmljmljaa
open Go.RowKit Go.Shelf
attribute [local go_sem ↓] Go.wp_at_zero Go.wp_at_succ
set_option maxRecDepth 100000 in
set_option maxHeartbeats 2000000 in
theorem rget_any (v : Value) (ms : List NodeM) (most room i : Int) (w : World) (hv : RdM w.heap.size v ms w) (hl : ms.length ≤ 10000) :
    Calls Try.prog 21 #[.agg #[v, .int .i64 most, .int .i64 room], .int .i64 i] w fun e w' => GetIs (pl ms) i e w w' := by
  obtain ⟨ao, cap, rfl, _, _⟩ := rdm_form hv
  have HV := Lib.hid hv
  have HL := Lib.hid hl
  clear hv
  have hret : ∀ (W : World) (cs : Array Value) (fr), W.heap[w.heap.size + 1]? = some (.cells cs 49 fr) → cs.size = 8 → ∀ tmps : Array Value, tmps.getD 4 undef = .pointer (some ⟨w.heap.size + 1, 0, none⟩) → (results Try.f21 tmps).run Try.prog W = .ok (.tuple #[.agg cs, tmps.getD 5 undef]) W := fun W cs fr h hs tmps ht =>
    results_ct (p := 4) (u := 5) (ty := 49) rfl tmps W (w.heap.size + 1) _ cs fr _ ht h Try.underlying49 rfl (by rw [hs]; kernel_rfl)
  have no : ∀ W : World, gotB (pl ms) i = false → Below w.heap.size w W → GetIs (pl ms) i (.returned (.tuple #[.agg #[.int .i64 0, .int .i64 0, .int .i64 0, .int .i64 0, .int .i64 0, .int .i64 0, .string ⟨#[]⟩, .slice none 0 0], .bool false])) w W := fun _ h hb => get_no h hb
  have HNO := Lib.hid no
  clear no
  by_cases h1 : i < 0
  · have hI : decide (i < 0) = true := by simpa using h1
    have HG : Hid (gotB (pl ms) i = false) := Lib.hid (by unfold gotB inL; rw [show decide (0 ≤ i) = false by simp; omega]; rfl)
    clear h1
    go_enter Try.func21, Try.ntmps21
    go_wp2_with fail
    refine fresh2 (P := fun W => bodyPost _ _ _ _ _ W) ?_
    intro W0 hb0 hP hQ hs0
    refine bodyPost_ret (hret _ _ _ hQ rfl _ rfl) rfl ?_
    exact HNO.out _ HG.out hb0
  have g1 : decide (i < 0) = false := by simpa using h1
  by_cases h2 : (ms.length : Int) ≤ i
  · have hI : decide ((ms.length : Int) ≤ i) = true := by simpa using h2
    have HG : Hid (gotB (pl ms) i = false) := Lib.hid (by unfold gotB inL; rw [show decide (i < (pl ms).length) = false by rw [pl_len]; simpa using h2]; simp)
    clear h1 h2
    go_enter Try.func21, Try.ntmps21
    go_wp2_with fail
    refine fresh2 (P := fun W => bodyPost _ _ _ _ _ W) ?_
    intro W0 hb0 hP hQ hs0
    refine bodyPost_ret (hret _ _ _ hQ rfl _ rfl) rfl ?_
    exact HNO.out _ HG.out hb0
  have g2 : decide ((ms.length : Int) ≤ i) = false := by simpa using h2
  obtain ⟨k, rfl, hk⟩ : ∃ k : Nat, i = k ∧ k < ms.length := ⟨i.toNat, by omega, by omega⟩
  have hin := nat_in (l := pl ms) (k := k) (by rw [pl_len]; exact hk)
  have hat := at_nat (pl ms) k (by rw [pl_len]; exact hk)
  have k0 : (0 : Int) ≤ (k : Int) := by omega
  have k1 : (k : Int) < (ms.length : Int) := by omega
  obtain ⟨b, off, n, aon, capn, rfl, hb, hn, -, hrn, c0, c1, c2, c3, c4, c5, c6, c7⟩ := node_at HV.out k hk
  rw [hn] at hat
  by_cases h0 : n.kind = 0
  · have hd : (n.kind == 0) = true := by simpa using h0
    have HG : Hid (gotB (pl ms) k = false) := Lib.hid (by unfold gotB; rw [hat]; simp [h0])
    clear h0 h1 h2 hin hat hn hrn
    go_enter Try.func21, Try.ntmps21
    go_wp2_with fail
    refine fresh2 (P := fun W => bodyPost _ _ _ _ _ W) ?_
    intro W0 hb0 hP hQ hs0
    refine bodyPost_ret (hret _ _ _ hQ rfl _ rfl) rfl ?_
    exact HNO.out _ HG.out hb0
  · have hd : (n.kind == 0) = false := by simpa using h0
    have HG : Hid (gotB (pl ms) k = true) := Lib.hid (by unfold gotB; rw [hat, hin]; simp [h0])
    have HGe : Hid (getL (pl ms) k = n) := Lib.hid (by unfold getL; rw [HG.out, hat]; rfl)
    have HR := Lib.hid hrn
    clear h0 h1 h2 hin hat hn hrn
    go_enter Try.func21, Try.ntmps21
    go_wp2_with fail
    refine fresh2 (P := fun W => bodyPost _ _ _ _ _ W) ?_
    intro W0 hb0 hP hQ hs0
    refine bodyPost_ret (hret _ _ _ hQ rfl _ rfl) rfl ?_
    exact ⟨.slice aon n.names.length capn, by rw [HGe.out, HG.out]; rfl, by rw [HGe.out]; exact rd_keep HR.out hb0, hb0⟩
def NamesIs (l : List NodeL) (i : Int) (e : Ending) (W W' : World) : Prop := e = .returned (.tuple #[.int .i64 ((nmL l i (0, -1)).1 : Int), .int .i64 (nmL l i (0, -1)).2]) ∧ Below W.heap.size W W'
set_option maxRecDepth 100000 in
set_option maxHeartbeats 2000000 in
theorem names_any (v : Value) (ms : List NodeM) (most room i : Int) (w : World) (hv : RdM w.heap.size v ms w) (hsm : Small (pl ms)) :
    Calls Try.prog 37 #[.agg #[v, .int .i64 most, .int .i64 room], .int .i64 i] w fun e w' => NamesIs (pl ms) i e w w' := by
  have hl : ms.length ≤ 110 := by have := hsm.1; rwa [pl_len] at this
  obtain ⟨ao, cap, rfl, _, _⟩ := rdm_form hv
  have hb0 : Below w.heap.size w (w.alloc (.cells #[.slice ao ms.length cap, .int .i64 most, .int .i64 room] 35)) := (Below.refl _ w).alloc (Nat.le_refl _) _
  have HV := Lib.hid (hv.below hb0)
  have HS := Lib.hid hsm
  clear hv hsm
  go_enter Try.func37, Try.ntmps37
  go_wp2_with fail
  go_loop [6, 7, 8] (fun c d i' => ∃ k : Nat, i' = .int .i64 k ∧ k ≤ ms.length ∧ c = .int .i64 ((nmTo (pl ms) i (0, -1) k).1 : Int) ∧ d = .int .i64 (nmTo (pl ms) i (0, -1) k).2) (fun _ _ i' => ms.length - (intOf i').toNat)
  case atStart => exact ⟨0, rfl, Nat.zero_le _, rfl, rfl⟩
  case round =>
    obtain ⟨k, rfl, hk, rfl, rfl⟩ := hrel
    by_cases hlt : k < ms.length
    · obtain ⟨b, off, n, aon, capn, rfl, hb, hn, -, hrn, c0, c1, c2, c3, c4, c5, c6, c7⟩ := node_at HV.out k hlt
      have hsucc : Hid (nmTo (pl ms) i (0, -1) (k + 1) = foldN i k (nmTo (pl ms) i (0, -1) k) n.names) := Lib.hid (by
        show foldN i k _ ((pl ms).getD k zeroN).names = _
        rw [List.getD_eq_getElem?_getD, List.getElem?_eq_getElem (by rw [pl_len]; exact hlt), hn]
        rfl)
      have hle := nm_le HS.out i (0, -1) k
      have hnl : n.names.length ≤ 130 := (HS.out.2 n (by rw [← hn]; exact List.getElem_mem _)).2
      have HR := Lib.hid hrn
      clear hn hrn
      generalize nmTo (pl ms) i (0, -1) k = s at *
      have hle2 : s.1 ≤ 15000 := by simp at hle; omega
      clear hle
      go_wp2_with fail
      go_loop [6, 7, 9] (fun c d j' => ∃ j : Nat, j' = .int .i64 j ∧ j ≤ n.names.length ∧ c = .int .i64 ((foldN i k s (n.names.take j)).1 : Int) ∧ d = .int .i64 (foldN i k s (n.names.take j)).2) (fun _ _ j' => n.names.length - (intOf j').toNat)
      case atStart => exact ⟨0, rfl, Nat.zero_le _, rfl, rfl⟩
      case round =>
        obtain ⟨j, rfl, hj, rfl, rfl⟩ := hrel
        by_cases hlj : j < n.names.length
        · obtain ⟨b2, off2, cap2, e, _, _, _, _, hc⟩ := HR.out.at (by omega)
          injection e with e1 _ e2
          subst e1
          subst e2
          have d1 : World.cell? _ ⟨b2, off2 + j * 2 + 1, none⟩ = _ := hc (j * 2 + 1) _ (ents_at1 n.names j hlj)
          have hst := foldN_succ i k s n.names j hlj
          have hfl := fold_le i k (n.names.take j) s
          rw [List.length_take] at hfl
          generalize n.names[j] = f at *
          generalize foldN i k s (n.names.take j) = t at *
          obtain ⟨fx, fz⟩ := f
          by_cases hz : fz = i
          · have hI : (fz == i) = true := by simpa using hz
            have hst2 : foldN i k s (n.names.take (j + 1)) = (t.1 + 1, (k : Int)) := by rw [hst]; unfold stepN; rw [if_pos hz]
            have HST := Lib.hid hst2
            have ht1 : t.1 ≤ 16000 := by omega
            clear hz hst hst2 hc hfl
            go_wp2_with fail
            go_round
            case rel => exact ⟨j + 1, by go_num, hlj, by rw [HST.out]; go_num, by rw [HST.out]⟩
            case measure => simp [intOf]; omega
          · have hI : (fz == i) = false := by simpa using hz
            have hst2 : foldN i k s (n.names.take (j + 1)) = t := by rw [hst]; unfold stepN; rw [if_neg hz]
            have HST := Lib.hid hst2
            clear hz hst hst2 hc hfl
            go_wp2_with fail
            go_round
            case rel => exact ⟨j + 1, by go_num, hlj, by rw [HST.out], by rw [HST.out]⟩
            case measure => simp [intOf]; omega
        · have hje : j = n.names.length := by omega
          have HT : Hid (foldN i k s (n.names.take j) = nmTo (pl ms) i (0, -1) (k + 1)) := Lib.hid (by rw [hje, List.take_length, hsucc.out])
          have hI2 : decide (j < n.names.length) = false := by simp; omega
          clear hje hlj
          go_wp2_with fail
          go_round
          case rel => exact ⟨k + 1, by go_num, hlt, by rw [HT.out], by rw [HT.out]⟩
          case measure => simp [intOf]; omega
    · have hke : k = ms.length := by omega
      have HT : Hid (nmTo (pl ms) i (0, -1) k = nmL (pl ms) i (0, -1)) := Lib.hid (by rw [hke]; unfold nmL; rw [pl_len])
      have hI2 : decide (k < ms.length) = false := by simp; omega
      clear hke hlt
      rw [HT.out]
      go_wp2_with fail
      go_ret2
      exact ⟨rfl, hb0⟩
end Go.Proofs.Ytilhiafmljmljaa
