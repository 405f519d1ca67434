import Derived.Test.YtilhiafmljmljaaR15
import Derived.Test.YtilhiafmljmljaaR14
namespace Go.Proofs.Ytilhiafmljmljaa
theorem holder {l : List NodeL} {k : Int} (h : cnt l k ≠ 0) : ∃ h0 : Nat, (nmL l k (0, -1)).2 = h0 ∧ 0 < cntN (nd l h0).names k := by
  have h1 := nm_holds l k (-1) (by rw [nm_cnt]; omega)
  obtain ⟨h0, e, hlt, x, hx, hk⟩ := h1
  exact ⟨h0, e, by rw [nd_lt hlt]; exact cntN_pos.2 ⟨x, hx, hk⟩⟩
theorem lastR_iff {l : List NodeL} (h0 : 0 < l.length) {k : Nat} (hk : k ≠ 0) (n : NodeL) : lastR l (k : Int) n (nmL l k (0, -1)) = true ↔ NamedOk l k n := by
  have hc := nm_cnt l k (0, -1)
  have hk' : ¬ (k : Int) = 0 := by omega
  unfold lastR NamedOk Placed
  rw [if_neg hk', hc, Nat.zero_add]
  constructor
  · intro h
    split at h
    · cases h
    · rename_i h1
      have hl : n.links = cnt l k := Decidable.byContradiction fun hn => h1 (.inl hn)
      have ho : cnt l k = 0 → 1 ≤ n.opn := fun hz => by
        refine Decidable.byContradiction fun hn => h1 (.inr ⟨hz, by omega⟩)
      refine ⟨hl, ho, fun h2 => ?_⟩
      rw [if_neg (by simpa using h2)] at h
      split at h
      · rename_i hz
        simp only [Bool.and_eq_true, decide_eq_true_iff] at h
        exact ⟨fun _ => ⟨List.eq_nil_of_length_eq_zero h.1, h.2⟩, fun hn => absurd hz hn⟩
      · rename_i hz
        simp only [Bool.and_eq_true, decide_eq_true_iff] at h
        refine ⟨fun hn => absurd hn hz, fun _ => ⟨h.1.1, ?_, (Rooted_iff h0 k).1 h.2⟩⟩
        obtain ⟨h3, e, hp⟩ := holder (l := l) (k := k) hz
        exact ⟨h3, h.1.2.trans e, hp⟩
  · rintro ⟨hl, ho, hd⟩
    rw [if_neg (by rintro (h | ⟨h, h'⟩); exact h hl; have := ho h; omega)]
    split
    · rfl
    · rename_i h2
      obtain ⟨p0, p1⟩ := hd (by simpa using h2)
      split
      · rename_i hz
        obtain ⟨e1, e2⟩ := p0 hz
        rw [e1, e2]; rfl
      · rename_i hz
        obtain ⟨e1, ⟨h3, e2, e3⟩, e4⟩ := p1 hz
        obtain ⟨h5, e6, hp⟩ := holder (l := l) (k := k) hz
        have : h3 = h5 := Decidable.byContradiction fun hne => by
          have := cnt_ge2 (l := l) hne k
          omega
        subst this
        simp only [Bool.and_eq_true, decide_eq_true_iff]
        exact ⟨⟨e1, e2.trans e6.symm⟩, (Rooted_iff h0 k).2 e4⟩
theorem okR_iff {l : List NodeL} {k : Nat} {n : NodeL} (hn : n.kind ≠ 0) : okR l k n = true ↔ LocOk n ∧ namableB l n.names = true ∧ lastR l k n (nmL l k (0, -1)) = true := by
  unfold okR LocOk
  rw [if_neg hn]
  simp only [Bool.and_eq_true, decide_eq_true_iff, Bool.or_eq_true, Bool.not_eq_true', decide_eq_false_iff_not]
  constructor
  · rintro ⟨⟨⟨⟨⟨h1, h2⟩, h3⟩, h4⟩, h5⟩, h6⟩
    exact ⟨⟨h1, fun hk => List.eq_nil_of_length_eq_zero (h2.resolve_left hk), fun hk => h3.resolve_left (fun h => h hk), h4⟩, h5, h6⟩
  · rintro ⟨⟨h1, h2, h3, h4⟩, h5, h6⟩
    refine ⟨⟨⟨⟨⟨h1, ?_⟩, ?_⟩, h4⟩, h5⟩, h6⟩
    · by_cases hk : n.kind = 2
      · exact .inl hk
      · exact .inr (by rw [h2 hk]; rfl)
    · by_cases hk : n.kind = 2
      · exact .inr (h3 hk)
      · exact .inl hk
theorem namable_iff {l : List NodeL} {es : List EntL} : namableB l es = true ↔ ∀ e ∈ es, ∃ j : Nat, e.2 = j ∧ j ≠ 0 ∧ (nd l j).kind ≠ 0 := by
  unfold namableB
  rw [List.all_eq_true]
  refine forall_congr' fun e => forall_congr' fun _ => ?_
  unfold namB
  simp only [Bool.and_eq_true, Bool.not_eq_true', decide_eq_false_iff_not]
  constructor
  · rintro ⟨h1, h2⟩
    obtain ⟨k, hk, _, h3⟩ := got_nat h1
    exact ⟨k, hk, by omega, h3⟩
  · rintro ⟨j, h1, h2, h3⟩
    rw [h1]
    exact ⟨(got_nd l j).2 h3, by omega⟩
theorem right_iff (l : List NodeL) (most room : Int) : rightR l most room = true ↔ Rig l ∧ 0 < l.length ∧ (l.length : Int) ≤ most ∧ (bytesL l : Int) ≤ room := by
  unfold rightR
  simp only [Bool.and_eq_true, Bool.not_eq_true', decide_eq_false_iff_not, decide_eq_true_iff]
  rw [range_all]
  have hat0 : atI l 0 = nd l 0 := at_nd l 0
  constructor
  · rintro ⟨⟨⟨⟨h1, h2⟩, h3⟩, h4⟩, h5⟩
    have hlen : 0 < l.length := by omega
    rw [hat0] at h4
    have hok : ∀ k, (nd l k).kind ≠ 0 → LocOk (nd l k) ∧ namableB l (nd l k).names = true ∧ lastR l k (nd l k) (nmL l k (0, -1)) = true := fun k hk => by
      have := h5 k (nd_kind hk)
      rw [at_nd] at this
      exact (okR_iff hk).1 this
    refine ⟨⟨?_, fun k hk => ?_, fun k hk => (hok k hk).1, fun k e he => ?_, fun k h0 _ hk => ?_⟩, hlen, by omega, by omega⟩
    · have := (hok 0 (by rw [h4]; decide)).2.2
      unfold lastR at this
      rw [if_pos (show ((0 : Nat) : Int) = 0 from rfl)] at this
      simp only [Bool.and_eq_true, decide_eq_true_iff] at this
      exact ⟨this.1.1, this.1.2, this.2⟩
    · by_cases hlt : k < l.length
      · have := h5 k hlt
        rw [at_nd] at this
        unfold okR at this
        rw [if_pos hk] at this
        exact of_decide_eq_true this
      · exact nd_ge (by omega)
    · have hkk : (nd l k).kind ≠ 0 := fun hz => by
        by_cases hlt : k < l.length
        · have := h5 k hlt
          rw [at_nd] at this
          unfold okR at this
          rw [if_pos hz] at this
          rw [of_decide_eq_true this] at he
          cases he
        · rw [nd_ge (by omega)] at he
          cases he
      exact namable_iff.1 (hok k hkk).2.1 e he
    · exact (lastR_iff hlen h0 _).1 (hok k hk).2.2
  · rintro ⟨hR, hlen, h2, h3⟩
    refine ⟨⟨⟨⟨by omega, by omega⟩, by omega⟩, by rw [hat0]; exact hR.root.1⟩, fun k hk => ?_⟩
    rw [at_nd]
    by_cases hz : (nd l k).kind = 0
    · unfold okR
      rw [if_pos hz]
      exact decide_eq_true (hR.zero k hz)
    · refine (okR_iff hz).2 ⟨hR.loc k hz, namable_iff.2 (hR.nam k), ?_⟩
      by_cases h0 : k = 0
      · subst h0
        unfold lastR
        rw [if_pos (show ((0 : Nat) : Int) = 0 from rfl)]
        obtain ⟨a, b, c⟩ := hR.root
        rw [a, b, c]; rfl
      · exact (lastR_iff hlen h0 _).2 (hR.nmd k h0 (fun h => h) hz)
theorem Rooted.mono {l l' : List NodeL} (P : Nat → Prop) (hs : ∀ k, P k → (nd l k).kind = 2 → (nd l' k).kind = 2 ∧ (nd l' k).up = (nd l k).up ∧ ∀ u : Nat, (nd l k).up = u → u ≠ 0 → P u) :
    ∀ {j : Int}, Rooted l j → (∀ k : Nat, j = k → k ≠ 0 → P k) → Rooted l' j := by
  intro j h
  induction h with
  | root => exact fun _ => .root
  | up k hk hr ih =>
    intro hP
    by_cases h0 : k = 0
    · subst h0; exact .root
    · obtain ⟨a, b, c⟩ := hs k (hP k rfl h0) hk
      refine .up k a ?_
      rw [b]
      exact ih fun u hu => c u hu
theorem NamedOk.same {l l' : List NodeL} {k : Nat} {n : NodeL} (h : NamedOk l k n) (hc : cnt l' k = cnt l k) (hh : n.kind = 2 → ∀ h : Nat, 0 < cntN (nd l h).names k → 0 < cntN (nd l' h).names k) (hr : n.kind = 2 → Rooted l k → Rooted l' k) : NamedOk l' k n := by
  obtain ⟨h1, h2, h3⟩ := h
  refine ⟨by rw [hc]; exact h1, by rw [hc]; exact h2, fun hk => ?_⟩
  obtain ⟨h4, h5⟩ := h3 hk
  refine ⟨by rw [hc]; exact h4, ?_⟩
  rw [hc]
  intro hn
  obtain ⟨a, ⟨u, b, c⟩, d⟩ := h5 hn
  exact ⟨a, ⟨u, b, hh hk u c⟩, hr hk d⟩
theorem RigE.names {l : List NodeL} {E : Nat → Prop} (h : RigE l E) (d : Nat) (hd : (nd l d).kind = 2) (es : List EntL) (E' : Nat → Prop) (hE : ∀ k, E k → E' k) (hs : SortedP es)
    (hn : ∀ e ∈ es, ∃ j : Nat, e.2 = j ∧ j ≠ 0 ∧ (nd l j).kind ≠ 0) (hc : ∀ j : Nat, ¬ E' j → cntN es j = cntN (nd l d).names j) (hz : d ≠ 0 → ¬ E' d → cnt l d = 0 → es = []) :
    RigE (l.set d { nd l d with names := es }) E' := by
  have hlt : d < l.length := nd_kind (by rw [hd]; decide)
  have hnd : ∀ j, nd (l.set d { nd l d with names := es }) j = if j = d then { nd l d with names := es } else nd l j := nd_set hlt _
  have hk : ∀ j, (nd (l.set d { nd l d with names := es }) j).kind = (nd l j).kind ∧ (nd (l.set d { nd l d with names := es }) j).up = (nd l j).up ∧ (nd (l.set d { nd l d with names := es }) j).links = (nd l j).links := fun j => by
    rw [hnd]; split
    · rename_i e; rw [e]; exact ⟨rfl, rfl, rfl⟩
    · exact ⟨rfl, rfl, rfl⟩
  have hcn : ∀ j : Nat, ¬ E' j → cnt (l.set d { nd l d with names := es }) j = cnt l j := fun j hj => by
    have h1 : cnt (l.set d { nd l d with names := es }) j + cntN (nd l d).names j = cnt l j + cntN es j := cnt_set hlt _ j
    have h2 := hc j hj
    omega
  refine ⟨by obtain ⟨a, b, c⟩ := h.root; exact ⟨(hk 0).1.trans a, (hk 0).2.1.trans b, (hk 0).2.2.trans c⟩, fun j hj => ?_, fun j hj => ?_, fun j e he => ?_, fun j h0 hj hjk => ?_⟩
  · rw [(hk j).1] at hj
    rw [hnd, if_neg (by intro e; rw [e, hd] at hj; cases hj)]
    exact h.zero j hj
  · rw [(hk j).1] at hj
    rw [hnd]
    split
    · rename_i e
      subst e
      obtain ⟨a, b, c, _⟩ := h.loc j hj
      exact ⟨a, fun h => absurd hd h, c, hs⟩
    · exact h.loc j hj
  · have : ∃ i : Nat, e.2 = i ∧ i ≠ 0 ∧ (nd l i).kind ≠ 0 := by
      rw [hnd] at he
      split at he
      · exact hn e he
      · exact h.nam j e he
    obtain ⟨i, a, b, c⟩ := this
    exact ⟨i, a, b, by rw [(hk i).1]; exact c⟩
  · rw [(hk j).1] at hjk
    have hn := h.nmd j h0 (fun he => hj (hE j he)) hjk
    have hn' : NamedOk (l.set d { nd l d with names := es }) j (nd l j) := by
      refine hn.same (hcn j hj) (fun _ u hu => ?_) fun _ hr => hr.mono (fun _ => True) (fun k _ hk2 => ⟨(hk k).1.trans hk2, (hk k).2.1, fun _ _ _ => trivial⟩) fun _ _ _ => trivial
      rw [hnd]
      split
      · rename_i e; subst e; simp only; rw [hc j hj]; exact hu
      · exact hu
    rw [hnd]
    split
    · rename_i e
      subst e
      obtain ⟨a, b, c⟩ := hn'
      refine ⟨a, b, fun h2 => ?_⟩
      obtain ⟨c1, c2⟩ := c hd
      refine ⟨fun hz0 => ⟨hz h0 hj ((hcn j hj).symm.trans hz0), (c1 hz0).2⟩, c2⟩
    · exact hn'
theorem RigE.less {l : List NodeL} {E E' : Nat → Prop} (h : RigE l E) (hE : ∀ k, E k → E' k ∨ (k ≠ 0 → (nd l k).kind ≠ 0 → NamedOk l k (nd l k))) : RigE l E' := by
  refine ⟨h.root, h.zero, h.loc, h.nam, fun k h0 hk hkk => ?_⟩
  by_cases he : E k
  · exact (hE k he).resolve_left hk h0 hkk
  · exact h.nmd k h0 he hkk
theorem RigE.node {l : List NodeL} {E : Nat → Prop} (h : RigE l E) {y : Nat} (hy : E y) (h0 : y ≠ 0) (hlt : y < l.length) (n : NodeL) (hnm : n.names = (nd l y).names) (hl : n.kind ≠ 0 → LocOk n) (hz : n.kind = 0 → n = zeroN) (hk0 : n.kind = 0 → ∀ k, cntN (nd l k).names y = 0)
    (hr : ∀ k : Nat, k ≠ 0 → ¬ E k → (nd l k).kind = 2 → Rooted l k → Rooted (l.set y n) k) : RigE (l.set y n) E := by
  have hnd : ∀ j, nd (l.set y n) j = if j = y then n else nd l j := nd_set hlt _
  have hc : ∀ j : Int, cnt (l.set y n) j = cnt l j := fun j => by
    have := cnt_set hlt n j
    rw [hnm] at this
    omega
  have hns : ∀ j, (nd (l.set y n) j).names = (nd l j).names := fun j => by
    rw [hnd]; split
    · rename_i e; rw [e, hnm]
    · rfl
  refine ⟨by rw [hnd, if_neg (Ne.symm h0)]; exact h.root, fun j hj => ?_, fun j hj => ?_, fun j e he => ?_, fun j hj0 hj hjk => ?_⟩
  · rw [hnd] at hj ⊢
    split
    · rename_i e; rw [if_pos e] at hj; exact hz hj
    · rename_i e; rw [if_neg e] at hj; exact h.zero j hj
  · rw [hnd] at hj ⊢
    split
    · rename_i e; rw [if_pos e] at hj; exact hl hj
    · rename_i e; rw [if_neg e] at hj; exact h.loc j hj
  · rw [hns] at he
    obtain ⟨i, a, b, c⟩ := h.nam j e he
    refine ⟨i, a, b, ?_⟩
    rw [hnd]
    split
    · rename_i e1
      subst e1
      intro hn0
      have := cntN_zero.1 (hk0 hn0 j) e he
      exact this a
    · exact c
  · have hjy : j ≠ y := fun e => hj (e ▸ hy)
    rw [hnd, if_neg hjy] at hjk ⊢
    refine (h.nmd j hj0 hj hjk).same (hc j) (fun _ u hu => by rw [hns]; exact hu) fun h2 hr0 => hr j hj0 hj h2 hr0
end Go.Proofs.Ytilhiafmljmljaa
namespace Go.Proofs.Ytilhiafmljmljaa
def writesL (l : List NodeL) (who d : Int) : Bool := mayB (nodeL l d).mode (nodeL l d).owner who 2
def putN (n : NodeL) (nm : Nm) (i : Int) : NodeL := { n with names := putL n.names (nm, i) }
def namedL (l : List NodeL) (s : SpotL) (i : Int) : List NodeL := setL l s.dir (putN (nodeL l s.dir) s.name i)
def freeE (l : List NodeL) (who : Int) (s : SpotL) : Int := if 0 ≤ s.ino then 3 else if (nodeL l s.dir).links < 1 then 2 else if writesL l who s.dir = false then 7 else 0
abbrev MakL := List NodeL × Int × Int
def ownN (n : NodeL) (who : Int) : NodeL := { n with links := 1, owner := who }
def enterL (l : List NodeL) (most room who : Int) (s : SpotL) (n : NodeL) : MakL :=
  if freeE l who s ≠ 0 then (l, 0, freeE l who s)
  else if addE l most room (ownN n who) ≠ 0 then (l, 0, addE l most room (ownN n who))
  else (namedL (addL l most room (ownN n who)) s (addI l most room (ownN n who)), addI l most room (ownN n who), 0)
end Go.Proofs.Ytilhiafmljmljaa
namespace Go.Proofs.Ytilhiafmljmljaa
theorem Rig.of {l : List NodeL} (h : RightP l) : Rig l ∧ 0 < l.length := by
  obtain ⟨most, room, h⟩ := h
  obtain ⟨a, b, _⟩ := (right_iff l most room).1 h
  exact ⟨a, b⟩
end Go.Proofs.Ytilhiafmljmljaa
namespace Go.Proofs.Ytilhiafmljmljaa
theorem Rig.sorted {l : List NodeL} {E : Nat → Prop} (h : RigE l E) (k : Nat) : SortedP (nd l k).names := by
  by_cases hk : (nd l k).kind = 0
  · rw [h.zero k hk]; exact sorted_nil
  · exact (h.loc k hk).2.2.2
end Go.Proofs.Ytilhiafmljmljaa
namespace Go.Proofs.Ytilhiafmljmljaa
theorem Rig.all {l : List NodeL} (h : Rig l) (E : Nat → Prop) : RigE l E := h.less fun _ h => absurd h id
end Go.Proofs.Ytilhiafmljmljaa
namespace Go.Proofs.Ytilhiafmljmljaa
def Siz (a c : Nat) (l : List NodeL) : Prop := l.length ≤ a ∧ ∀ n ∈ l, n.data.length ≤ 300 ∧ n.names.length ≤ c
theorem Siz.mono {a c a' c' : Nat} {l : List NodeL} (h : Siz a c l) (ha : a ≤ a') (hc : c ≤ c') : Siz a' c' l :=
  ⟨Nat.le_trans h.1 ha, fun n hn => ⟨(h.2 n hn).1, Nat.le_trans (h.2 n hn).2 hc⟩⟩
theorem Siz.set {a c : Nat} {l : List NodeL} (h : Siz a c l) {n : NodeL} (hn : n.data.length ≤ 300 ∧ n.names.length ≤ c) (i : Int) : Siz a c (setL l i n) := by
  unfold setL
  split
  · refine ⟨by rw [List.length_set]; exact h.1, fun m hm => ?_⟩
    rcases List.mem_or_eq_of_mem_set hm with hm | rfl
    · exact h.2 m hm
    · exact hn
  · exact h
theorem Siz.node {a c : Nat} {l : List NodeL} (h : Siz a c l) (i : Int) : (nodeL l i).data.length ≤ 300 ∧ (nodeL l i).names.length ≤ c := by
  unfold nodeL
  split
  · rename_i hg
    obtain ⟨k, rfl, hlt, _⟩ := got_nat hg
    rw [at_nd, nd_lt hlt]
    exact h.2 _ (List.getElem_mem hlt)
  · exact ⟨Nat.zero_le _, Nat.zero_le _⟩
theorem Siz.named {a c : Nat} {l : List NodeL} (h : Siz a c l) (s : SpotL) (i : Int) : Siz a (2 * c + 1) (namedL l s i) := by
  have h0 : Siz a (2 * c + 1) l := h.mono (Nat.le_refl _) (by omega)
  refine h0.set (n := putN (nodeL l s.dir) s.name i) ⟨(h.node s.dir).1, ?_⟩ s.dir
  have h1 := put_len (nodeL l s.dir).names (s.name, i)
  have h2 := (h.node s.dir).2
  show (putL (nodeL l s.dir).names (s.name, i)).length ≤ _
  omega
theorem Siz.add {a c : Nat} {l : List NodeL} (h : Siz a c l) {n : NodeL} (hn : n.data.length ≤ 300 ∧ n.names.length ≤ c) (most room : Int) : Siz (a + 1) c (addL l most room n) := by
  unfold addL
  split
  · exact h.mono (Nat.le_succ a) (Nat.le_refl c)
  · split
    · refine ⟨by rw [List.length_append, List.length_singleton]; have := h.1; omega, fun m hm => ?_⟩
      rcases List.mem_append.1 hm with hm | hm
      · exact h.2 m hm
      · obtain rfl := List.mem_singleton.1 hm
        exact hn
    · refine ⟨by rw [List.length_set]; have := h.1; omega, fun m hm => ?_⟩
      rcases List.mem_or_eq_of_mem_set hm with hm | rfl
      · exact h.2 m hm
      · exact hn
theorem Siz.enter {a c : Nat} {l : List NodeL} (h : Siz a c l) {n : NodeL} (hn : n.data.length ≤ 300 ∧ n.names.length ≤ c) (most room who : Int) (s : SpotL) : Siz (a + 1) (2 * c + 1) (enterL l most room who s n).1 := by
  unfold enterL
  split
  · exact h.mono (by omega) (by omega)
  · split
    · exact h.mono (by omega) (by omega)
    · exact (h.add (n := ownN n who) hn most room).named s _
theorem Rig.legal {l : List NodeL} (h : RightP l) : ∀ n ∈ l, ∀ e ∈ n.names, e.1.length ≤ 12 := by
  intro n hn e he
  obtain ⟨k, hk, rfl⟩ := List.mem_iff_getElem.1 hn
  have := Rig.sorted (Rig.of h).1 k
  rw [nd_lt hk] at this
  exact legal_len (this.1 e he)
end Go.Proofs.Ytilhiafmljmljaa
namespace Go.Proofs.Ytilhiafmljmljaa
open Go.RowKit
structure LineL where
  path : Nm
  kind : Int
  mode : Int
  data : Nm
theorem line_ext {a b : LineL} (h0 : a.path = b.path) (h1 : a.kind = b.kind) (h2 : a.mode = b.mode) (h3 : a.data = b.data) : a = b := by cases a; cases b; simp_all
instance : DecidableEq LineL := fun a b =>
  decidable_of_iff (a.path = b.path ∧ a.kind = b.kind ∧ a.mode = b.mode ∧ a.data = b.data) ⟨fun ⟨h0, h1, h2, h3⟩ => line_ext h0 h1 h2 h3, fun h => by subst h; simp⟩
def underL (nm : Nm) (x : LineL) : LineL := ⟨if x.path = [] then nm else nm ++ 47 :: x.path, x.kind, x.mode, x.data⟩
def topL (n : NodeL) : LineL := ⟨[], n.kind, n.mode, n.data⟩
def listF (l : List NodeL) : Nat → Int → List LineL
  | 0, _ => []
  | f + 1, i => if gotB l i = true then topL (nodeL l i) :: (nodeL l i).names.flatMap (fun e => (listF l f e.2).map (underL e.1)) else []
def insideF (l : List NodeL) : Nat → Int → List Int
  | 0, _ => []
  | f + 1, i => if gotB l i = true then i :: (nodeL l i).names.flatMap (fun e => insideF l f e.2) else []
def maxN (ns : List Nat) : Nat := ns.foldl max 0
def depthF (l : List NodeL) : Nat → Int → Nat
  | 0, _ => 0
  | f + 1, i => if gotB l i = true then 1 + maxN ((nodeL l i).names.map fun e => depthF l f e.2) else 0
def fuelT (l : List NodeL) : Nat := l.length + 2
def listT (l : List NodeL) (i : Int) : List LineL := listF l (fuelT l) i
def insideT (l : List NodeL) (i : Int) : List Int := insideF l (fuelT l) i
def depthT (l : List NodeL) (i : Int) : Nat := depthF l (fuelT l) i
def Lev (l : List NodeL) (d k : Nat) : Prop := rootR l (d + 1) (k : Int) = true ∧ rootR l d (k : Int) = false
section
variable {l : List NodeL}
theorem Rig.len (h : Rig l) : 0 < l.length := nd_kind (k := 0) (by rw [h.root.1]; decide)
theorem lev_lt (h : Rig l) {d k : Nat} (hl : Lev l d k) : d < l.length := by
  obtain ⟨L, h1, h2, h3, _⟩ := rootR_path l h.len d k hl.1 hl.2
  have := pigeon _ _ h2 h3
  omega
theorem lev_of (h : Rig l) {k : Nat} (hr : Rooted l (k : Int)) : ∃ d, Lev l d k := by
  have h1 := Rooted_rootR h.len hr
  have main : ∀ f, rootR l f (k : Int) = true → ∃ d, Lev l d k := by
    intro f
    induction f with
    | zero => intro hf; cases hf
    | succ f ih =>
      intro hf
      cases hb : rootR l f (k : Int) with
      | true => exact ih hb
      | false => exact ⟨f, hf, hb⟩
  exact main _ h1
theorem names_lev (h : Rig l) {k : Nat} (hn : (nd l k).names ≠ []) : (nd l k).kind = 2 ∧ ∃ d, Lev l d k := by
  have hk : (nd l k).kind ≠ 0 := fun e => hn (by rw [h.zero k e]; rfl)
  have h2 : (nd l k).kind = 2 := by
    by_cases e : (nd l k).kind = 2
    · exact e
    · exact absurd ((h.loc k hk).2.1 e) hn
  refine ⟨h2, lev_of h ?_⟩
  by_cases e0 : k = 0
  · subst e0; exact .root
  · have hp := (h.nmd k e0 (fun e => e) hk).2.2 h2
    have hc : cnt l k ≠ 0 := fun e => hn (hp.1 e).1
    exact (hp.2 hc).2.2
theorem child_up (h : Rig l) {k : Nat} {e : EntL} (he : e ∈ (nd l k).names) {j : Nat} (hj : e.2 = j) (h2 : (nd l j).kind = 2) : j ≠ 0 ∧ (nd l j).up = k ∧ cnt l j = 1 := by
  obtain ⟨j', e1, hj0, hjk⟩ := h.nam k e he
  have : j' = j := by omega
  subst this
  have hp := (h.nmd j' hj0 (fun e => e) hjk).2.2 h2
  have hpos : 0 < cntN (nd l k).names j' := cntN_pos.2 ⟨e, he, hj⟩
  have hc : cnt l j' ≠ 0 := by have := cnt_ge (l := l) k (j' : Int); omega
  obtain ⟨c1, ⟨q, hq, hqn⟩, _⟩ := hp.2 hc
  refine ⟨hj0, ?_, c1⟩
  by_cases hkq : k = q
  · rw [hq, hkq]
  · have := cnt_ge2 (l := l) hkq (j' : Int)
    omega
theorem child_lev (h : Rig l) {k d : Nat} (hl : Lev l d k) {e : EntL} (he : e ∈ (nd l k).names) {j : Nat} (hj : e.2 = j) (h2 : (nd l j).kind = 2) : Lev l (d + 1) j := by
  obtain ⟨hj0, hup, _⟩ := child_up h he hj h2
  have hg : gotB l (j : Int) = true := (got_nd l j).2 (by rw [h2]; decide)
  have hat : atI l (j : Int) = nd l j := at_nd l j
  have hs : ∀ f, rootR l (f + 1) (j : Int) = rootR l f (k : Int) := fun f => by
    show (if (j : Int) = 0 then true else if gotB l j && decide ((atI l j).kind = 2) then rootR l f (atI l j).up else false) = _
    rw [if_neg (by omega), hg, hat, h2, hup]
    rfl
  exact ⟨by rw [hs]; exact hl.1, by rw [hs]; exact hl.2⟩
def Enough (l : List NodeL) (f : Nat) (i : Int) : Prop := 1 ≤ f ∧ ((nodeL l i).names = [] ∨ ∃ d k : Nat, i = k ∧ Lev l d k ∧ l.length + 1 ≤ f + d)
theorem nodeL_none {i : Int} (h : gotB l i ≠ true) : nodeL l i = zeroN := by unfold nodeL; rw [if_neg h]
theorem enough_child (h : Rig l) {f : Nat} {i : Int} (hf : Enough l (f + 1) i) {e : EntL} (he : e ∈ (nodeL l i).names) : Enough l f e.2 := by
  rcases hf.2 with h0 | ⟨d, k, rfl, hl, hd⟩
  · rw [h0] at he; cases he
  · have hk : (nd l k).kind ≠ 0 := by
      intro e0
      rw [nodeL_none (fun hg => (got_nd l k).1 hg e0)] at he
      cases he
    rw [nodeL_nd hk] at he
    obtain ⟨j, hj, _, hjk⟩ := h.nam k e he
    have hd2 := lev_lt h hl
    refine ⟨by omega, ?_⟩
    rw [hj, nodeL_nd hjk]
    by_cases hn : (nd l j).names = []
    · exact .inl hn
    · exact .inr ⟨d + 1, j, rfl, child_lev h hl he hj (names_lev h hn).1, by omega⟩
theorem enough_full (h : Rig l) (i : Int) {f : Nat} (hf : l.length + 1 ≤ f) : Enough l f i := by
  refine ⟨by omega, ?_⟩
  by_cases hg : gotB l i = true
  · obtain ⟨k, rfl, _, hk⟩ := got_nat hg
    rw [nodeL_nd hk]
    by_cases hn : (nd l k).names = []
    · exact .inl hn
    · obtain ⟨d, hd⟩ := (names_lev h hn).2
      exact .inr ⟨d, k, rfl, hd, by omega⟩
  · rw [nodeL_none hg]; exact .inl rfl
theorem flat_congr {α β : Type} {l : List α} {f g : α → List β} (h : ∀ x ∈ l, f x = g x) : l.flatMap f = l.flatMap g := by
  induction l with
  | nil => rfl
  | cons a l ih => rw [List.flatMap_cons, List.flatMap_cons, h a List.mem_cons_self, ih fun x hx => h x (List.mem_cons_of_mem _ hx)]
theorem list_stable (h : Rig l) : ∀ (f g : Nat) (i : Int), Enough l f i → Enough l g i → listF l f i = listF l g i := by
  intro f
  induction f with
  | zero => intro g i hf; exact absurd hf.1 (by omega)
  | succ f ih =>
    intro g i hf hg
    obtain ⟨g, rfl⟩ : ∃ g', g = g' + 1 := ⟨g - 1, by have := hg.1; omega⟩
    unfold listF
    split
    · congr 1
      exact flat_congr fun e he => by rw [ih g e.2 (enough_child h hf he) (enough_child h hg he)]
    · rfl
theorem inside_stable (h : Rig l) : ∀ (f g : Nat) (i : Int), Enough l f i → Enough l g i → insideF l f i = insideF l g i := by
  intro f
  induction f with
  | zero => intro g i hf; exact absurd hf.1 (by omega)
  | succ f ih =>
    intro g i hf hg
    obtain ⟨g, rfl⟩ : ∃ g', g = g' + 1 := ⟨g - 1, by have := hg.1; omega⟩
    unfold insideF
    split
    · congr 1
      exact flat_congr fun e he => ih g e.2 (enough_child h hf he) (enough_child h hg he)
    · rfl
theorem depth_stable (h : Rig l) : ∀ (f g : Nat) (i : Int), Enough l f i → Enough l g i → depthF l f i = depthF l g i := by
  intro f
  induction f with
  | zero => intro g i hf; exact absurd hf.1 (by omega)
  | succ f ih =>
    intro g i hf hg
    obtain ⟨g, rfl⟩ : ∃ g', g = g' + 1 := ⟨g - 1, by have := hg.1; omega⟩
    unfold depthF
    split
    · congr 2
      exact List.map_congr_left fun e he => ih g e.2 (enough_child h hf he) (enough_child h hg he)
    · rfl
theorem list_is (h : Rig l) {i : Int} (hg : gotB l i = true) : listT l i = topL (nodeL l i) :: (nodeL l i).names.flatMap fun e => (listT l e.2).map (underL e.1) := by
  have hf := enough_full h i (f := fuelT l) (by unfold fuelT; omega)
  unfold listT
  rw [show fuelT l = (l.length + 1) + 1 from rfl] at hf ⊢
  rw [listF, if_pos hg]
  congr 1
  exact flat_congr fun e he => by rw [list_stable h (l.length + 1) (l.length + 1 + 1) e.2 (enough_child h hf he) (enough_full h e.2 (by omega))]
theorem list_no {i : Int} (hg : gotB l i = false) : listT l i = [] := by unfold listT fuelT listF; rw [if_neg (by rw [hg]; decide)]
theorem inside_is (h : Rig l) {i : Int} (hg : gotB l i = true) : insideT l i = i :: (nodeL l i).names.flatMap fun e => insideT l e.2 := by
  have hf := enough_full h i (f := fuelT l) (by unfold fuelT; omega)
  unfold insideT
  rw [show fuelT l = (l.length + 1) + 1 from rfl] at hf ⊢
  rw [insideF, if_pos hg]
  congr 1
  exact flat_congr fun e he => inside_stable h (l.length + 1) (l.length + 1 + 1) e.2 (enough_child h hf he) (enough_full h e.2 (by omega))
theorem inside_no {i : Int} (hg : gotB l i = false) : insideT l i = [] := by unfold insideT fuelT insideF; rw [if_neg (by rw [hg]; decide)]
theorem depth_is (h : Rig l) {i : Int} (hg : gotB l i = true) : depthT l i = 1 + maxN ((nodeL l i).names.map fun e => depthT l e.2) := by
  have hf := enough_full h i (f := fuelT l) (by unfold fuelT; omega)
  unfold depthT
  rw [show fuelT l = (l.length + 1) + 1 from rfl] at hf ⊢
  rw [depthF, if_pos hg]
  congr 2
  exact List.map_congr_left fun e he => depth_stable h (l.length + 1) (l.length + 1 + 1) e.2 (enough_child h hf he) (enough_full h e.2 (by omega))
theorem depth_no {i : Int} (hg : gotB l i = false) : depthT l i = 0 := by unfold depthT fuelT depthF; rw [if_neg (by rw [hg]; decide)]
theorem tree_ind (h : Rig l) (P : Nat → Prop) (step : ∀ k : Nat, (nd l k).kind ≠ 0 → (∀ e ∈ (nd l k).names, ∀ j : Nat, e.2 = j → P j) → P k) : ∀ k : Nat, (nd l k).kind ≠ 0 → P k := by
  have main : ∀ (f k : Nat), (nd l k).kind ≠ 0 → Enough l f (k : Int) → P k := by
    intro f
    induction f with
    | zero => intro k _ hf; exact absurd hf.1 (by omega)
    | succ f ih =>
      intro k hk hf
      refine step k hk fun e he j hj => ?_
      obtain ⟨j', e1, _, hjk⟩ := h.nam k e he
      have : j' = j := by omega
      subst this
      refine ih j' hjk ?_
      have := enough_child h hf (e := e) (by rw [nodeL_nd hk]; exact he)
      rwa [hj] at this
  exact fun k hk => main (l.length + 1) k hk (enough_full h k (by omega))
theorem list_inside (h : Rig l) (i : Int) : (listT l i).length = (insideT l i).length := by
  cases hg : gotB l i with
  | false => rw [list_no hg, inside_no hg]; rfl
  | true =>
    obtain ⟨k, rfl, _, hk⟩ := got_nat hg
    refine tree_ind h (fun k => (listT l (k : Int)).length = (insideT l (k : Int)).length) (fun k hk ih => ?_) k hk
    have hg := (got_nd l k).2 hk
    rw [list_is h hg, inside_is h hg, nodeL_nd hk, List.length_cons, List.length_cons]
    congr 1
    have : ∀ es : List EntL, (∀ e ∈ es, e ∈ (nd l k).names) → (es.flatMap fun e => (listT l e.2).map (underL e.1)).length = (es.flatMap fun e => insideT l e.2).length := by
      intro es
      induction es with
      | nil => intro _; rfl
      | cons e es ihe =>
        intro hm
        obtain ⟨j, hj, _, _⟩ := h.nam k e (hm e List.mem_cons_self)
        rw [List.flatMap_cons, List.flatMap_cons, List.length_append, List.length_append, List.length_map, ihe fun x hx => hm x (List.mem_cons_of_mem _ hx), hj, ih e (hm e List.mem_cons_self) j hj]
    exact this _ fun e he => he
end
end Go.Proofs.Ytilhiafmljmljaa
