import Derived.Test.YtilhiafmljmljaaDoorR25
import Derived.Test.YtilhiafmljmljaaDoorR12
import Derived.Test.YtilhiafmljmljaaDoorR24
import Derived.Test.YtilhiafmljmljaaDoorR19
import Derived.Test.YtilhiafmljmljaaDoorR17
namespace Go.Proofs.YtilhiafmljmljaaDoor
open Go.RowKit
structure LineL where
  path : Nm
  kind : Int
  mode : Int
  data : Nm
theorem line_ext {a b : LineL} (h0 : a.path = b.path) (h1 : a.kind = b.kind) (h2 : a.mode = b.mode) (h3 : a.data = b.data) : a = b := by cases a; cases b; simp_all
instance : DecidableEq LineL := fun a b =>
  decidable_of_iff (a.path = b.path ∧ a.kind = b.kind ∧ a.mode = b.mode ∧ a.data = b.data) ⟨fun ⟨h0, h1, h2, h3⟩ => line_ext h0 h1 h2 h3, fun h => by subst h; simp⟩
def underL (nm : Nm) (x : LineL) : LineL := ⟨if x.path = [] then nm else nm ++ 47 :: x.path, x.kind, x.mode, x.data⟩
def topL (n : NodeL) : LineL := ⟨[], n.kind, n.mode, n.data⟩
def listF (l : List NodeL) : Nat → Int → List LineL
  | 0, _ => []
  | f + 1, i => if gotB l i = true then topL (nodeL l i) :: (nodeL l i).names.flatMap (fun e => (listF l f e.2).map (underL e.1)) else []
def insideF (l : List NodeL) : Nat → Int → List Int
  | 0, _ => []
  | f + 1, i => if gotB l i = true then i :: (nodeL l i).names.flatMap (fun e => insideF l f e.2) else []
def fuelT (l : List NodeL) : Nat := l.length + 2
def listT (l : List NodeL) (i : Int) : List LineL := listF l (fuelT l) i
def insideT (l : List NodeL) (i : Int) : List Int := insideF l (fuelT l) i
def Lev (l : List NodeL) (d k : Nat) : Prop := rootR l (d + 1) (k : Int) = true ∧ rootR l d (k : Int) = false
section
variable {l : List NodeL}
theorem Rig.len (h : Rig l) : 0 < l.length := nd_kind (k := 0) (by rw [h.root.1]; decide)
theorem lev_lt (h : Rig l) {d k : Nat} (hl : Lev l d k) : d < l.length := by
  obtain ⟨L, h1, h2, h3, _⟩ := rootR_path l h.len d k hl.1 hl.2
  have := pigeon _ _ h2 h3
  omega
theorem lev_of (h : Rig l) {k : Nat} (hr : Rooted l (k : Int)) : ∃ d, Lev l d k := by
  have h1 := Rooted_rootR h.len hr
  have main : ∀ f, rootR l f (k : Int) = true → ∃ d, Lev l d k := by
    intro f
    induction f with
    | zero => intro hf; cases hf
    | succ f ih =>
      intro hf
      cases hb : rootR l f (k : Int) with
      | true => exact ih hb
      | false => exact ⟨f, hf, hb⟩
  exact main _ h1
theorem names_lev (h : Rig l) {k : Nat} (hn : (nd l k).names ≠ []) : (nd l k).kind = 2 ∧ ∃ d, Lev l d k := by
  have hk : (nd l k).kind ≠ 0 := fun e => hn (by rw [h.zero k e]; rfl)
  have h2 : (nd l k).kind = 2 := by
    by_cases e : (nd l k).kind = 2
    · exact e
    · exact absurd ((h.loc k hk).2.1 e) hn
  refine ⟨h2, lev_of h ?_⟩
  by_cases e0 : k = 0
  · subst e0; exact .root
  · have hp := (h.nmd k e0 (fun e => e) hk).2.2 h2
    have hc : cnt l k ≠ 0 := fun e => hn (hp.1 e).1
    exact (hp.2 hc).2.2
theorem child_up (h : Rig l) {k : Nat} {e : EntL} (he : e ∈ (nd l k).names) {j : Nat} (hj : e.2 = j) (h2 : (nd l j).kind = 2) : j ≠ 0 ∧ (nd l j).up = k ∧ cnt l j = 1 := by
  obtain ⟨j', e1, hj0, hjk⟩ := h.nam k e he
  have : j' = j := by omega
  subst this
  have hp := (h.nmd j' hj0 (fun e => e) hjk).2.2 h2
  have hpos : 0 < cntN (nd l k).names j' := cntN_pos.2 ⟨e, he, hj⟩
  have hc : cnt l j' ≠ 0 := by have := cnt_ge (l := l) k (j' : Int); omega
  obtain ⟨c1, ⟨q, hq, hqn⟩, _⟩ := hp.2 hc
  refine ⟨hj0, ?_, c1⟩
  by_cases hkq : k = q
  · rw [hq, hkq]
  · have := cnt_ge2 (l := l) hkq (j' : Int)
    omega
theorem child_lev (h : Rig l) {k d : Nat} (hl : Lev l d k) {e : EntL} (he : e ∈ (nd l k).names) {j : Nat} (hj : e.2 = j) (h2 : (nd l j).kind = 2) : Lev l (d + 1) j := by
  obtain ⟨hj0, hup, _⟩ := child_up h he hj h2
  have hg : gotB l (j : Int) = true := (got_nd l j).2 (by rw [h2]; decide)
  have hat : atI l (j : Int) = nd l j := at_nd l j
  have hs : ∀ f, rootR l (f + 1) (j : Int) = rootR l f (k : Int) := fun f => by
    show (if (j : Int) = 0 then true else if gotB l j && decide ((atI l j).kind = 2) then rootR l f (atI l j).up else false) = _
    rw [if_neg (by omega), hg, hat, h2, hup]
    rfl
  exact ⟨by rw [hs]; exact hl.1, by rw [hs]; exact hl.2⟩
def Enough (l : List NodeL) (f : Nat) (i : Int) : Prop := 1 ≤ f ∧ ((nodeL l i).names = [] ∨ ∃ d k : Nat, i = k ∧ Lev l d k ∧ l.length + 1 ≤ f + d)
theorem nodeL_none {i : Int} (h : gotB l i ≠ true) : nodeL l i = zeroN := by unfold nodeL; rw [if_neg h]
theorem enough_child (h : Rig l) {f : Nat} {i : Int} (hf : Enough l (f + 1) i) {e : EntL} (he : e ∈ (nodeL l i).names) : Enough l f e.2 := by
  rcases hf.2 with h0 | ⟨d, k, rfl, hl, hd⟩
  · rw [h0] at he; cases he
  · have hk : (nd l k).kind ≠ 0 := by
      intro e0
      rw [nodeL_none (fun hg => (got_nd l k).1 hg e0)] at he
      cases he
    rw [nodeL_nd hk] at he
    obtain ⟨j, hj, _, hjk⟩ := h.nam k e he
    have hd2 := lev_lt h hl
    refine ⟨by omega, ?_⟩
    rw [hj, nodeL_nd hjk]
    by_cases hn : (nd l j).names = []
    · exact .inl hn
    · exact .inr ⟨d + 1, j, rfl, child_lev h hl he hj (names_lev h hn).1, by omega⟩
theorem enough_full (h : Rig l) (i : Int) {f : Nat} (hf : l.length + 1 ≤ f) : Enough l f i := by
  refine ⟨by omega, ?_⟩
  by_cases hg : gotB l i = true
  · obtain ⟨k, rfl, _, hk⟩ := got_nat hg
    rw [nodeL_nd hk]
    by_cases hn : (nd l k).names = []
    · exact .inl hn
    · obtain ⟨d, hd⟩ := (names_lev h hn).2
      exact .inr ⟨d, k, rfl, hd, by omega⟩
  · rw [nodeL_none hg]; exact .inl rfl
theorem flat_congr {α β : Type} {l : List α} {f g : α → List β} (h : ∀ x ∈ l, f x = g x) : l.flatMap f = l.flatMap g := by
  induction l with
  | nil => rfl
  | cons a l ih => rw [List.flatMap_cons, List.flatMap_cons, h a List.mem_cons_self, ih fun x hx => h x (List.mem_cons_of_mem _ hx)]
theorem list_stable (h : Rig l) : ∀ (f g : Nat) (i : Int), Enough l f i → Enough l g i → listF l f i = listF l g i := by
  intro f
  induction f with
  | zero => intro g i hf; exact absurd hf.1 (by omega)
  | succ f ih =>
    intro g i hf hg
    obtain ⟨g, rfl⟩ : ∃ g', g = g' + 1 := ⟨g - 1, by have := hg.1; omega⟩
    unfold listF
    split
    · congr 1
      exact flat_congr fun e he => by rw [ih g e.2 (enough_child h hf he) (enough_child h hg he)]
    · rfl
theorem inside_stable (h : Rig l) : ∀ (f g : Nat) (i : Int), Enough l f i → Enough l g i → insideF l f i = insideF l g i := by
  intro f
  induction f with
  | zero => intro g i hf; exact absurd hf.1 (by omega)
  | succ f ih =>
    intro g i hf hg
    obtain ⟨g, rfl⟩ : ∃ g', g = g' + 1 := ⟨g - 1, by have := hg.1; omega⟩
    unfold insideF
    split
    · congr 1
      exact flat_congr fun e he => ih g e.2 (enough_child h hf he) (enough_child h hg he)
    · rfl
theorem list_is (h : Rig l) {i : Int} (hg : gotB l i = true) : listT l i = topL (nodeL l i) :: (nodeL l i).names.flatMap fun e => (listT l e.2).map (underL e.1) := by
  have hf := enough_full h i (f := fuelT l) (by unfold fuelT; omega)
  unfold listT
  rw [show fuelT l = (l.length + 1) + 1 from rfl] at hf ⊢
  rw [listF, if_pos hg]
  congr 1
  exact flat_congr fun e he => by rw [list_stable h (l.length + 1) (l.length + 1 + 1) e.2 (enough_child h hf he) (enough_full h e.2 (by omega))]
theorem list_no {i : Int} (hg : gotB l i = false) : listT l i = [] := by unfold listT fuelT listF; rw [if_neg (by rw [hg]; decide)]
theorem inside_is (h : Rig l) {i : Int} (hg : gotB l i = true) : insideT l i = i :: (nodeL l i).names.flatMap fun e => insideT l e.2 := by
  have hf := enough_full h i (f := fuelT l) (by unfold fuelT; omega)
  unfold insideT
  rw [show fuelT l = (l.length + 1) + 1 from rfl] at hf ⊢
  rw [insideF, if_pos hg]
  congr 1
  exact flat_congr fun e he => inside_stable h (l.length + 1) (l.length + 1 + 1) e.2 (enough_child h hf he) (enough_full h e.2 (by omega))
theorem inside_no {i : Int} (hg : gotB l i = false) : insideT l i = [] := by unfold insideT fuelT insideF; rw [if_neg (by rw [hg]; decide)]
theorem tree_ind (h : Rig l) (P : Nat → Prop) (step : ∀ k : Nat, (nd l k).kind ≠ 0 → (∀ e ∈ (nd l k).names, ∀ j : Nat, e.2 = j → P j) → P k) : ∀ k : Nat, (nd l k).kind ≠ 0 → P k := by
  have main : ∀ (f k : Nat), (nd l k).kind ≠ 0 → Enough l f (k : Int) → P k := by
    intro f
    induction f with
    | zero => intro k _ hf; exact absurd hf.1 (by omega)
    | succ f ih =>
      intro k hk hf
      refine step k hk fun e he j hj => ?_
      obtain ⟨j', e1, _, hjk⟩ := h.nam k e he
      have : j' = j := by omega
      subst this
      refine ih j' hjk ?_
      have := enough_child h hf (e := e) (by rw [nodeL_nd hk]; exact he)
      rwa [hj] at this
  exact fun k hk => main (l.length + 1) k hk (enough_full h k (by omega))
theorem list_inside (h : Rig l) (i : Int) : (listT l i).length = (insideT l i).length := by
  cases hg : gotB l i with
  | false => rw [list_no hg, inside_no hg]; rfl
  | true =>
    obtain ⟨k, rfl, _, hk⟩ := got_nat hg
    refine tree_ind h (fun k => (listT l (k : Int)).length = (insideT l (k : Int)).length) (fun k hk ih => ?_) k hk
    have hg := (got_nd l k).2 hk
    rw [list_is h hg, inside_is h hg, nodeL_nd hk, List.length_cons, List.length_cons]
    congr 1
    have : ∀ es : List EntL, (∀ e ∈ es, e ∈ (nd l k).names) → (es.flatMap fun e => (listT l e.2).map (underL e.1)).length = (es.flatMap fun e => insideT l e.2).length := by
      intro es
      induction es with
      | nil => intro _; rfl
      | cons e es ihe =>
        intro hm
        obtain ⟨j, hj, _, _⟩ := h.nam k e (hm e List.mem_cons_self)
        rw [List.flatMap_cons, List.flatMap_cons, List.length_append, List.length_append, List.length_map, ihe fun x hx => hm x (List.mem_cons_of_mem _ hx), hj, ih e (hm e List.mem_cons_self) j hj]
    exact this _ fun e he => he
end
end Go.Proofs.YtilhiafmljmljaaDoor
namespace Go.Proofs.YtilhiafmljmljaaDoor
open Go.RowKit
structure PlcL where
  ino : Int
  level : Nat
  line : LineL
def plcF (l : List NodeL) (u : Nat) : Nat → Int → Nm → List PlcL
  | 0, _, _ => []
  | f + 1, i, p => if gotB l i = true then ⟨i, u - f, ⟨p, (nodeL l i).kind, (nodeL l i).mode, (nodeL l i).data⟩⟩ :: (if (nodeL l i).kind = 2 then (nodeL l i).names.flatMap fun e => plcF l u f e.2 (joinL p e.1) else []) else []
def preP (p : Nm) (x : LineL) : LineL := ⟨if p = [] then x.path else if x.path = [] then p else p ++ 47 :: x.path, x.kind, x.mode, x.data⟩
theorem preP_nil (x : LineL) : preP [] x = x := by cases x; rfl
def PathOk (p : Nm) : Prop := p = [] ∨ Lib.hasSuffix p [47] = false
theorem suffix_one (p : Nm) : Lib.hasSuffix p [47] = decide (p.getLast? = some 47) := by
  rcases List.eq_nil_or_concat p with rfl | ⟨q, c, rfl⟩
  · rfl
  · by_cases h : c = 47
    · subst h; simp [Lib.hasSuffix, List.isSuffixOf, List.isPrefixOf]
    · have h2 : ¬ (47 : UInt8) = c := fun e => h e.symm
      simp [Lib.hasSuffix, List.isSuffixOf, List.isPrefixOf, h, h2]
theorem legal_parts {nm : Nm} (h : legalL nm = 0) : nm ≠ [] ∧ (47 : UInt8) ∉ nm ∧ (0 : UInt8) ∉ nm ∧ nm ≠ [46] ∧ nm ≠ [46, 46] ∧ nm.length ≤ 12 := by
  have hl := legal_len h
  unfold legalL at h
  split at h
  · cases h
  · rename_i hn
    refine ⟨fun e => hn (.inl e), fun e => hn (.inr (.inr (.inr (List.any_eq_true.2 ⟨_, e, rfl⟩)))), fun e => hn (.inr (.inr (.inr (List.any_eq_true.2 ⟨_, e, rfl⟩)))), fun e => hn (.inr (.inl e)), fun e => hn (.inr (.inr (.inl e))), hl⟩
theorem join_path {p nm : Nm} (hp : PathOk p) (h : legalL nm = 0) : joinL p nm = if p = [] then nm else p ++ 47 :: nm := by
  obtain ⟨h0, h1, _⟩ := legal_parts h
  have hpre : Lib.hasPrefix nm [47] = false := by
    cases nm with
    | nil => exact absurd rfl h0
    | cons c r =>
      have : c ≠ 47 := fun e => h1 (e ▸ List.mem_cons_self)
      simp [Lib.hasPrefix, List.isPrefixOf, this.symm]
  unfold joinL
  by_cases e : p = []
  · rw [if_pos (.inl e), if_pos e]
  · rw [if_neg (fun h => h.elim e fun h => by rw [hpre] at h; cases h), if_neg h0, if_neg e]
    rcases hp with hp | hp
    · exact absurd hp e
    · rw [if_neg (by rw [hp]; decide)]; simp
theorem join_ok {p nm : Nm} (hp : PathOk p) (h : legalL nm = 0) : PathOk (joinL p nm) ∧ joinL p nm ≠ [] ∧ (joinL p nm).length ≤ p.length + 13 := by
  rw [join_path hp h]
  obtain ⟨h0, h1, _, _, _, h5⟩ := legal_parts h
  have hl : nm.getLast? ≠ some 47 := fun e => h1 (List.mem_of_getLast? e)
  split
  · exact ⟨.inr (by rw [suffix_one]; exact decide_eq_false hl), h0, by omega⟩
  · refine ⟨.inr ?_, by simp, by simp; omega⟩
    rw [suffix_one]
    refine decide_eq_false fun e => hl ?_
    rw [List.getLast?_append] at e
    cases nm with
    | nil => exact absurd rfl h0
    | cons c r => simpa [List.getLast?_cons] using e
theorem pre_under {p nm : Nm} (hp : PathOk p) (h : legalL nm = 0) (x : LineL) : preP p (underL nm x) = preP (joinL p nm) x := by
  obtain ⟨h0, _⟩ := legal_parts h
  rw [join_path hp h]
  unfold preP underL
  refine line_ext ?_ rfl rfl rfl
  by_cases e : p = []
  · simp [e, h0]
  · by_cases e2 : x.path = []
    · simp [e, e2, h0]
    · simp [e, e2, h0]
theorem pigeonP (p : Nat → Bool) : ∀ (n : Nat) (L : List Nat), L.Nodup → (∀ x ∈ L, x < n ∧ p x = true) → L.length ≤ (List.range n).countP p := by
  intro n
  induction n with
  | zero =>
    intro L _ h
    cases L with
    | nil => exact Nat.zero_le _
    | cons a L => exact absurd (h a (by simp)).1 (Nat.not_lt_zero _)
  | succ n ih =>
    intro L hd h
    have h1 := ih (L.erase n) (hd.erase n) fun x hx => by
      have h2 := (hd.mem_erase_iff).1 hx
      have h3 := h x h2.2
      exact ⟨by have := h2.1; omega, h3.2⟩
    rw [List.range_succ, List.countP_append]
    rw [List.length_erase] at h1
    split at h1
    · rename_i hm
      have : p n = true := (h n (by simpa using hm)).2
      simp [this]
      omega
    · omega
section
variable {l : List NodeL}
theorem used_range (l : List NodeL) : usedL l = (List.range l.length).countP fun k => !decide ((nd l k).kind = 0) := by
  have e : l = (List.range l.length).map (nd l) := by
    apply List.ext_getElem
    · simp
    · intro i h1 h2
      rw [List.getElem_map, List.getElem_range, nd_lt h1]
  unfold usedL
  conv => lhs; rw [e]
  rw [List.countP_map]
  rfl
theorem used_of {L : List Nat} (hd : L.Nodup) (h : ∀ x ∈ L, (nd l x).kind ≠ 0) : L.length ≤ usedL l := by
  rw [used_range]
  exact pigeonP _ _ L hd fun x hx => ⟨nd_kind (h x hx), by simpa using h x hx⟩
theorem lev_path (h : Rig l) {d k : Nat} (hl : Lev l d k) : ∃ L : List Nat, L.length = d + 1 ∧ L.Nodup ∧ ∀ x ∈ L, (nd l x).kind = 2 := by
  obtain ⟨L, h1, h2, _, h4⟩ := rootR_path l h.len d k hl.1 hl.2
  refine ⟨L, h1, h2, fun x hx => ?_⟩
  have hr := h4 x hx
  rcases rootR_up hr with h0 | ⟨_, hk, _⟩
  · have : x = 0 := by omega
    rw [this]; exact h.root.1
  · rwa [at_nd] at hk
theorem lev_used (h : Rig l) {d k : Nat} (hl : Lev l d k) : d + 1 ≤ usedL l := by
  obtain ⟨L, h1, h2, h3⟩ := lev_path h hl
  have := used_of (l := l) h2 fun x hx => by rw [h3 x hx]; decide
  omega
theorem file_used (h : Rig l) {d k j : Nat} (hl : Lev l d k) (h0 : (nd l j).kind ≠ 0) (h2 : (nd l j).kind ≠ 2) : d + 2 ≤ usedL l := by
  obtain ⟨L, h1, hd, h3⟩ := lev_path h hl
  have := used_of (l := l) (L := j :: L) (List.nodup_cons.2 ⟨fun hm => h2 (h3 j hm), hd⟩) fun x hx => by
    rcases List.mem_cons.1 hx with rfl | hx
    · exact h0
    · rw [h3 x hx]; decide
  rw [List.length_cons] at this
  omega
theorem child_used (h : Rig l) {d k : Nat} (hl : Lev l d k) {e : EntL} (he : e ∈ (nd l k).names) : d + 2 ≤ usedL l := by
  obtain ⟨j, hj, _, hjk⟩ := h.nam k e he
  by_cases h2 : (nd l j).kind = 2
  · exact lev_used h (child_lev h hl he hj h2)
  · exact file_used h hl hjk h2
def EnoughU (l : List NodeL) (f : Nat) (i : Int) : Prop := 1 ≤ f ∧ ((nodeL l i).names = [] ∨ ∃ d k : Nat, i = k ∧ Lev l d k ∧ usedL l ≤ f + d)
theorem enoughu_child (h : Rig l) {f : Nat} {i : Int} (hf : EnoughU l (f + 1) i) {e : EntL} (he : e ∈ (nodeL l i).names) : EnoughU l f e.2 := by
  rcases hf.2 with h0 | ⟨d, k, rfl, hl, hd⟩
  · rw [h0] at he; cases he
  · have hk : (nd l k).kind ≠ 0 := by
      intro e0
      rw [nodeL_none (fun hg => (got_nd l k).1 hg e0)] at he
      cases he
    rw [nodeL_nd hk] at he
    obtain ⟨j, hj, _, hjk⟩ := h.nam k e he
    have hd2 := child_used h hl he
    refine ⟨by omega, ?_⟩
    rw [hj, nodeL_nd hjk]
    by_cases hn : (nd l j).names = []
    · exact .inl hn
    · exact .inr ⟨d + 1, j, rfl, child_lev h hl he hj (names_lev h hn).1, by omega⟩
theorem got_used {i : Int} (hg : gotB l i = true) : 1 ≤ usedL l := by
  obtain ⟨k, rfl, _, hk⟩ := got_nat hg
  exact used_of (l := l) (L := [k]) (by simp) fun x hx => by rw [List.mem_singleton.1 hx]; exact hk
theorem enoughu_full (h : Rig l) {i : Int} (hg : gotB l i = true) : EnoughU l (usedL l) i := by
  refine ⟨got_used hg, ?_⟩
  obtain ⟨k, rfl, _, hk⟩ := got_nat hg
  rw [nodeL_nd hk]
  by_cases hn : (nd l k).names = []
  · exact .inl hn
  · obtain ⟨d, hd⟩ := (names_lev h hn).2
    exact .inr ⟨d, k, rfl, hd, by omega⟩
theorem names_dir (h : Rig l) {i : Int} (hg : gotB l i = true) (h2 : (nodeL l i).kind ≠ 2) : (nodeL l i).names = [] := by
  obtain ⟨k, rfl, _, hk⟩ := got_nat hg
  rw [nodeL_nd hk] at h2 ⊢
  exact (h.loc k hk).2.1 h2
theorem names_legal (h : Rig l) {i : Int} (hg : gotB l i = true) : ∀ e ∈ (nodeL l i).names, legalL e.1 = 0 := by
  obtain ⟨k, rfl, _, hk⟩ := got_nat hg
  rw [nodeL_nd hk]
  exact (h.loc k hk).2.2.2.1
theorem plc_line (h : Rig l) (u : Nat) : ∀ (f : Nat) (i : Int) (p : Nm), PathOk p → EnoughU l f i → (plcF l u f i p).map (·.line) = (listT l i).map (preP p) := by
  intro f
  induction f with
  | zero => intro i p _ hf; exact absurd hf.1 (by omega)
  | succ f ih =>
    intro i p hp hf
    unfold plcF
    cases hg : gotB l i with
    | false => rw [list_no hg]; rfl
    | true =>
      rw [if_pos rfl, list_is h hg, List.map_cons, List.map_cons]
      congr 1
      · unfold preP topL
        refine line_ext ?_ rfl rfl rfl
        by_cases e : p = [] <;> simp [e]
      · by_cases h2 : (nodeL l i).kind = 2
        · rw [if_pos h2, List.map_flatMap, List.map_flatMap]
          refine flat_congr fun e he => ?_
          have hle := names_legal h hg e he
          rw [ih _ _ (join_ok hp hle).1 (enoughu_child h hf he), List.map_map]
          refine List.map_congr_left fun x _ => ?_
          exact (pre_under hp hle x).symm
        · rw [if_neg h2, names_dir h hg h2]; rfl
theorem plc_ino (h : Rig l) (u : Nat) : ∀ (f : Nat) (i : Int) (p : Nm), EnoughU l f i → (plcF l u f i p).map (·.ino) = insideT l i := by
  intro f
  induction f with
  | zero => intro i p hf; exact absurd hf.1 (by omega)
  | succ f ih =>
    intro i p hf
    unfold plcF
    cases hg : gotB l i with
    | false => rw [inside_no hg]; rfl
    | true =>
      rw [if_pos rfl, inside_is h hg, List.map_cons]
      congr 1
      by_cases h2 : (nodeL l i).kind = 2
      · rw [if_pos h2, List.map_flatMap]
        exact flat_congr fun e he => ih _ _ (enoughu_child h hf he)
      · rw [if_neg h2, names_dir h hg h2]; rfl
def plcT (l : List NodeL) (i : Int) : List PlcL := plcF l (usedL l) (usedL l) i []
theorem plcF_no {u f : Nat} {i : Int} {p : Nm} (hg : gotB l i = false) : plcF l u f i p = [] := by
  cases f with
  | zero => rfl
  | succ f => unfold plcF; rw [if_neg (by rw [hg]; decide)]
theorem top_line (h : Rig l) (i : Int) : (plcT l i).map (·.line) = listT l i := by
  unfold plcT
  cases hg : gotB l i with
  | false => rw [plcF_no hg, list_no hg]; rfl
  | true =>
    rw [plc_line h _ _ _ _ (.inl rfl) (enoughu_full h hg), show preP [] = id from funext preP_nil, List.map_id]
theorem top_ino (h : Rig l) (i : Int) : (plcT l i).map (·.ino) = insideT l i := by
  unfold plcT
  cases hg : gotB l i with
  | false => rw [plcF_no hg, inside_no hg]; rfl
  | true => exact plc_ino h _ _ _ _ (enoughu_full h hg)
end
end Go.Proofs.YtilhiafmljmljaaDoor
namespace Go.Proofs.YtilhiafmljmljaaDoor
open Go.RowKit Go.Shelf
attribute [local go_sem ↓] Go.wp_at_zero Go.wp_at_succ
section
variable {X : Nat → Prop} {w W W' : World} {B : List Bo} {J : Thing}
theorem It.set {b : Nat} {o o' : Obj} (h : It X w ((b, o) :: B) J W) (hb : Below b W W') (hg : ∀ g, g ≠ b → W'.heap[g]? = W.heap[g]?) (hs : W'.heap.size = W.heap.size) (hn : W'.heap[b]? = some o') : It X w ((b, o') :: B) J W' := by
  have hnd := h.nd
  rw [List.map_cons, List.nodup_cons] at hnd
  refine ⟨h.keep.trans (KeepX.one (h.no List.mem_cons_self) hb hg), h.old, fun x hx => ?_, h.nd, h.firm, h.firm.other h.j (.inr List.mem_cons_self) hs hg⟩
  rcases List.mem_cons.1 hx with rfl | hx
  · exact ⟨hn, (h.blk _ List.mem_cons_self).2⟩
  · have hb := h.blk x (List.mem_cons_of_mem _ hx)
    refine ⟨(hg _ fun e => hnd.1 ?_).trans hb.1, hb.2⟩
    rw [← e]
    exact List.mem_map.2 ⟨x, hx, rfl⟩
theorem It.row (h : It X w B J W) (hb : Below W.heap.size W W') {m : NodeM} (hr : RdNm W'.heap.size m W') (hn : NewV W.heap.size m.2) :
    ∃ R : List Bo, It X w (R ++ B) J W' ∧ ∀ V : World, (∀ x ∈ R, V.heap[x.1]? = some x.2) → W'.heap.size ≤ V.heap.size → RdNm V.heap.size m V := by
  rcases Nat.eq_zero_or_pos m.1.names.length with h0 | h0
  · refine ⟨[], h.call hb, fun V _ _ => ?_⟩
    obtain ⟨ao, cap, e, hc, hm, hz, hl, _⟩ := hr
    exact ⟨ao, cap, e, hc, hm, hz, hl, fun hp => by omega⟩
  · obtain ⟨b, off, cap, e, hc, hm, hlt, hl, hcell⟩ := Rd.at hr h0
    have hbW := hn b (by rw [e]; rfl)
    refine ⟨[(b, W'.heap[b])], h.push hb (Array.getElem?_eq_getElem hlt) hbW, fun V hV hs => ?_⟩
    have hVb := hV _ List.mem_cons_self
    refine ⟨_, cap, e, hc, hm, fun e => (by cases e), hl, fun _ => ⟨b, off, rfl, by omega, fun j u hu => ?_⟩⟩
    rw [← hcell j u hu]
    refine World.cell?_of_block ?_
    rw [hVb]
    exact (Array.getElem?_eq_getElem hlt).symm
end
abbrev plcV (x : PlcL) : Value := .agg #[.int .i64 x.ino, .int .i64 x.level, .string (bs x.line.path), .int .i64 x.line.kind, .int .i64 x.line.mode, .string (bs x.line.data)]
def encL (x : PlcL) : Array Value := #[plcV x]
structure HoldsF (vd : Value) (most room i : Int) (p : Nm) (lv : Int) (b0 b1 b2 b3 : Nat) (W : World) : Prop where
  h0 : W.heap[b0]? = some (.cells #[vd, .int .i64 most, .int .i64 room] 24 (0, 0))
  h1 : W.heap[b1]? = some (.cells #[.int .i64 i] 3 (0, 0))
  h2 : W.heap[b2]? = some (.cells #[.string (bs p)] 9 (0, 0))
  h3 : W.heap[b3]? = some (.cells #[.int .i64 lv] 3 (0, 0))
theorem from_c (ao : Option Addr) (n cap : Nat) (most room i : Int) (p : Nm) (lv : Int) (w : World) :
    Calls Tryd.prog 21 #[.agg #[.slice ao n cap, .int .i64 most, .int .i64 room], .int .i64 i, .string (bs p), .int .i64 lv] w fun e w' =>
      e = .returned (.func (.func 36) #[] #[.pointer (some ⟨w.heap.size, 0, none⟩), .pointer (some ⟨w.heap.size + 1, 0, none⟩), .pointer (some ⟨w.heap.size + 3, 0, none⟩), .pointer (some ⟨w.heap.size + 2, 0, none⟩)])
      ∧ Below w.heap.size w w' ∧ HoldsF (.slice ao n cap) most room i p lv w.heap.size (w.heap.size + 1) (w.heap.size + 2) (w.heap.size + 3) w' ∧ w'.heap.size = w.heap.size + 4 := by
  go_enter Tryd.func21, Tryd.ntmps21
  go_wp2_with fail
  refine fresh4 (P := fun W => bodyPost _ _ _ _ _ W) ?_
  intro W hb h0 h1 h2 h3 hs
  go_ret
  exact ⟨rfl, hb, ⟨h0, h1, h2, h3⟩, hs⟩
theorem cells6 {W : World} {b : Nat} {u0 u1 u2 u3 u4 u5 : Value} {t : TypeId} {f : Nat × Nat} (h : W.heap[b]? = some (.cells #[u0, u1, u2, u3, u4, u5] t f)) :
    W.cell? ⟨b, 0, none⟩ = some u0 ∧ W.cell? ⟨b, 1, none⟩ = some u1 ∧ W.cell? ⟨b, 2, none⟩ = some u2 ∧ W.cell? ⟨b, 3, none⟩ = some u3 ∧ W.cell? ⟨b, 4, none⟩ = some u4 ∧ W.cell? ⟨b, 5, none⟩ = some u5 := by
  refine ⟨?_, ?_, ?_, ?_, ?_, ?_⟩ <;> (rw [Lib.cell_of_heap h]; rfl)
theorem flat_lt {α β : Type} (f : α → List β) (x0 : β) : ∀ (es : List α) (k : Nat) (hk : k < es.length) (q : List β), q.length < (f es[k]).length → (x0 :: (es.take k).flatMap f ++ q).length < (x0 :: es.flatMap f).length := by
  intro es k hk q hq
  have h : es.flatMap f = (es.take k).flatMap f ++ (f es[k] ++ (es.drop (k + 1)).flatMap f) := by
    conv => lhs; rw [← List.take_append_drop k es, List.drop_eq_getElem_cons hk, List.flatMap_append, List.flatMap_cons]
  rw [h]
  simp only [List.length_cons, List.length_append]
  omega
theorem flat_step {α β : Type} (f : α → List β) (x0 : β) (es : List α) (k : Nat) (hk : k < es.length) : x0 :: (es.take (k + 1)).flatMap f = x0 :: (es.take k).flatMap f ++ f es[k] := by
  rw [List.take_succ_eq_append_getElem hk, List.flatMap_append]
  simp
theorem join_len (a b : List UInt8) : (joinL a b).length ≤ a.length + 1 + b.length := by
  unfold joinL
  split
  · omega
  · split
    · omega
    · split <;> simp <;> omega
end Go.Proofs.YtilhiafmljmljaaDoor
