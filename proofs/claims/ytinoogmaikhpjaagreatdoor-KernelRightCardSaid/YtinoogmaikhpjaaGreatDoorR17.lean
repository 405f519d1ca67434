import Derived.Test.YtinoogmaikhpjaaGreatDoorR16
import Derived.Test.YtinoogmaikhpjaaGreatDoorR15
import Derived.Deep.DeepCutAuto
namespace Go.Proofs.YtinoogmaikhpjaaGreatDoor
theorem holder {l : List NodeL} {k : Int} (h : cnt l k ≠ 0) : ∃ h0 : Nat, (nmL l k (0, -1)).2 = h0 ∧ 0 < cntN (nd l h0).names k := by
  have h1 := nm_holds l k (-1) (by rw [nm_cnt]; omega)
  obtain ⟨h0, e, hlt, x, hx, hk⟩ := h1
  exact ⟨h0, e, by rw [nd_lt hlt]; exact cntN_pos.2 ⟨x, hx, hk⟩⟩
theorem lastR_iff {l : List NodeL} (h0 : 0 < l.length) {k : Nat} (hk : k ≠ 0) (n : NodeL) : lastR l (k : Int) n (nmL l k (0, -1)) = true ↔ NamedOk l k n := by
  have hc := nm_cnt l k (0, -1)
  have hk' : ¬ (k : Int) = 0 := by omega
  unfold lastR NamedOk Placed
  rw [if_neg hk', hc, Nat.zero_add]
  constructor
  · intro h
    split at h
    · cases h
    · rename_i h1
      have hl : n.links = cnt l k := Decidable.byContradiction fun hn => h1 (.inl hn)
      have ho : cnt l k = 0 → 1 ≤ n.opn := fun hz => by
        refine Decidable.byContradiction fun hn => h1 (.inr ⟨hz, by omega⟩)
      refine ⟨hl, ho, fun h2 => ?_⟩
      rw [if_neg (by simpa using h2)] at h
      split at h
      · rename_i hz
        simp only [Bool.and_eq_true, decide_eq_true_iff] at h
        exact ⟨fun _ => ⟨List.eq_nil_of_length_eq_zero h.1, h.2⟩, fun hn => absurd hz hn⟩
      · rename_i hz
        simp only [Bool.and_eq_true, decide_eq_true_iff] at h
        refine ⟨fun hn => absurd hn hz, fun _ => ⟨h.1.1, ?_, (Rooted_iff h0 k).1 h.2⟩⟩
        obtain ⟨h3, e, hp⟩ := holder (l := l) (k := k) hz
        exact ⟨h3, h.1.2.trans e, hp⟩
  · rintro ⟨hl, ho, hd⟩
    rw [if_neg (by rintro (h | ⟨h, h'⟩); exact h hl; have := ho h; omega)]
    split
    · rfl
    · rename_i h2
      obtain ⟨p0, p1⟩ := hd (by simpa using h2)
      split
      · rename_i hz
        obtain ⟨e1, e2⟩ := p0 hz
        rw [e1, e2]; rfl
      · rename_i hz
        obtain ⟨e1, ⟨h3, e2, e3⟩, e4⟩ := p1 hz
        obtain ⟨h5, e6, hp⟩ := holder (l := l) (k := k) hz
        have : h3 = h5 := Decidable.byContradiction fun hne => by
          have := cnt_ge2 (l := l) hne k
          omega
        subst this
        simp only [Bool.and_eq_true, decide_eq_true_iff]
        exact ⟨⟨e1, e2.trans e6.symm⟩, (Rooted_iff h0 k).2 e4⟩
theorem okR_iff {l : List NodeL} {k : Nat} {n : NodeL} (hn : n.kind ≠ 0) : okR l k n = true ↔ LocOk n ∧ namableB l n.names = true ∧ lastR l k n (nmL l k (0, -1)) = true := by
  unfold okR LocOk
  rw [if_neg hn]
  simp only [Bool.and_eq_true, decide_eq_true_iff, Bool.or_eq_true, Bool.not_eq_true', decide_eq_false_iff_not]
  constructor
  · rintro ⟨⟨⟨⟨⟨h1, h2⟩, h3⟩, h4⟩, h5⟩, h6⟩
    exact ⟨⟨h1, fun hk => List.eq_nil_of_length_eq_zero (h2.resolve_left hk), fun hk => h3.resolve_left (fun h => h hk), h4⟩, h5, h6⟩
  · rintro ⟨⟨h1, h2, h3, h4⟩, h5, h6⟩
    refine ⟨⟨⟨⟨⟨h1, ?_⟩, ?_⟩, h4⟩, h5⟩, h6⟩
    · by_cases hk : n.kind = 2
      · exact .inl hk
      · exact .inr (by rw [h2 hk]; rfl)
    · by_cases hk : n.kind = 2
      · exact .inr (h3 hk)
      · exact .inl hk
theorem namable_iff {l : List NodeL} {es : List EntL} : namableB l es = true ↔ ∀ e ∈ es, ∃ j : Nat, e.2 = j ∧ j ≠ 0 ∧ (nd l j).kind ≠ 0 := by
  unfold namableB
  rw [List.all_eq_true]
  refine forall_congr' fun e => forall_congr' fun _ => ?_
  unfold namB
  simp only [Bool.and_eq_true, Bool.not_eq_true', decide_eq_false_iff_not]
  constructor
  · rintro ⟨h1, h2⟩
    obtain ⟨k, hk, _, h3⟩ := got_nat h1
    exact ⟨k, hk, by omega, h3⟩
  · rintro ⟨j, h1, h2, h3⟩
    rw [h1]
    exact ⟨(got_nd l j).2 h3, by omega⟩
theorem right_iff (l : List NodeL) (most room : Int) : rightR l most room = true ↔ Rig l ∧ 0 < l.length ∧ (l.length : Int) ≤ most ∧ (bytesL l : Int) ≤ room := by
  unfold rightR
  simp only [Bool.and_eq_true, Bool.not_eq_true', decide_eq_false_iff_not, decide_eq_true_iff]
  rw [range_all]
  have hat0 : atI l 0 = nd l 0 := at_nd l 0
  constructor
  · rintro ⟨⟨⟨⟨h1, h2⟩, h3⟩, h4⟩, h5⟩
    have hlen : 0 < l.length := by omega
    rw [hat0] at h4
    have hok : ∀ k, (nd l k).kind ≠ 0 → LocOk (nd l k) ∧ namableB l (nd l k).names = true ∧ lastR l k (nd l k) (nmL l k (0, -1)) = true := fun k hk => by
      have := h5 k (nd_kind hk)
      rw [at_nd] at this
      exact (okR_iff hk).1 this
    refine ⟨⟨?_, fun k hk => ?_, fun k hk => (hok k hk).1, fun k e he => ?_, fun k h0 _ hk => ?_⟩, hlen, by omega, by omega⟩
    · have := (hok 0 (by rw [h4]; decide)).2.2
      unfold lastR at this
      rw [if_pos (show ((0 : Nat) : Int) = 0 from rfl)] at this
      simp only [Bool.and_eq_true, decide_eq_true_iff] at this
      exact ⟨this.1.1, this.1.2, this.2⟩
    · by_cases hlt : k < l.length
      · have := h5 k hlt
        rw [at_nd] at this
        unfold okR at this
        rw [if_pos hk] at this
        exact of_decide_eq_true this
      · exact nd_ge (by omega)
    · have hkk : (nd l k).kind ≠ 0 := fun hz => by
        by_cases hlt : k < l.length
        · have := h5 k hlt
          rw [at_nd] at this
          unfold okR at this
          rw [if_pos hz] at this
          rw [of_decide_eq_true this] at he
          cases he
        · rw [nd_ge (by omega)] at he
          cases he
      exact namable_iff.1 (hok k hkk).2.1 e he
    · exact (lastR_iff hlen h0 _).1 (hok k hk).2.2
  · rintro ⟨hR, hlen, h2, h3⟩
    refine ⟨⟨⟨⟨by omega, by omega⟩, by omega⟩, by rw [hat0]; exact hR.root.1⟩, fun k hk => ?_⟩
    rw [at_nd]
    by_cases hz : (nd l k).kind = 0
    · unfold okR
      rw [if_pos hz]
      exact decide_eq_true (hR.zero k hz)
    · refine (okR_iff hz).2 ⟨hR.loc k hz, namable_iff.2 (hR.nam k), ?_⟩
      by_cases h0 : k = 0
      · subst h0
        unfold lastR
        rw [if_pos (show ((0 : Nat) : Int) = 0 from rfl)]
        obtain ⟨a, b, c⟩ := hR.root
        rw [a, b, c]; rfl
      · exact (lastR_iff hlen h0 _).2 (hR.nmd k h0 (fun h => h) hz)
theorem Rooted.mono {l l' : List NodeL} (P : Nat → Prop) (hs : ∀ k, P k → (nd l k).kind = 2 → (nd l' k).kind = 2 ∧ (nd l' k).up = (nd l k).up ∧ ∀ u : Nat, (nd l k).up = u → u ≠ 0 → P u) :
    ∀ {j : Int}, Rooted l j → (∀ k : Nat, j = k → k ≠ 0 → P k) → Rooted l' j := by
  intro j h
  induction h with
  | root => exact fun _ => .root
  | up k hk hr ih =>
    intro hP
    by_cases h0 : k = 0
    · subst h0; exact .root
    · obtain ⟨a, b, c⟩ := hs k (hP k rfl h0) hk
      refine .up k a ?_
      rw [b]
      exact ih fun u hu => c u hu
theorem NamedOk.same {l l' : List NodeL} {k : Nat} {n : NodeL} (h : NamedOk l k n) (hc : cnt l' k = cnt l k) (hh : n.kind = 2 → ∀ h : Nat, 0 < cntN (nd l h).names k → 0 < cntN (nd l' h).names k) (hr : n.kind = 2 → Rooted l k → Rooted l' k) : NamedOk l' k n := by
  obtain ⟨h1, h2, h3⟩ := h
  refine ⟨by rw [hc]; exact h1, by rw [hc]; exact h2, fun hk => ?_⟩
  obtain ⟨h4, h5⟩ := h3 hk
  refine ⟨by rw [hc]; exact h4, ?_⟩
  rw [hc]
  intro hn
  obtain ⟨a, ⟨u, b, c⟩, d⟩ := h5 hn
  exact ⟨a, ⟨u, b, hh hk u c⟩, hr hk d⟩
theorem RigE.names {l : List NodeL} {E : Nat → Prop} (h : RigE l E) (d : Nat) (hd : (nd l d).kind = 2) (es : List EntL) (E' : Nat → Prop) (hE : ∀ k, E k → E' k) (hs : SortedP es)
    (hn : ∀ e ∈ es, ∃ j : Nat, e.2 = j ∧ j ≠ 0 ∧ (nd l j).kind ≠ 0) (hc : ∀ j : Nat, ¬ E' j → cntN es j = cntN (nd l d).names j) (hz : d ≠ 0 → ¬ E' d → cnt l d = 0 → es = []) :
    RigE (l.set d { nd l d with names := es }) E' := by
  have hlt : d < l.length := nd_kind (by rw [hd]; decide)
  have hnd : ∀ j, nd (l.set d { nd l d with names := es }) j = if j = d then { nd l d with names := es } else nd l j := nd_set hlt _
  have hk : ∀ j, (nd (l.set d { nd l d with names := es }) j).kind = (nd l j).kind ∧ (nd (l.set d { nd l d with names := es }) j).up = (nd l j).up ∧ (nd (l.set d { nd l d with names := es }) j).links = (nd l j).links := fun j => by
    rw [hnd]; split
    · rename_i e; rw [e]; exact ⟨rfl, rfl, rfl⟩
    · exact ⟨rfl, rfl, rfl⟩
  have hcn : ∀ j : Nat, ¬ E' j → cnt (l.set d { nd l d with names := es }) j = cnt l j := fun j hj => by
    have h1 : cnt (l.set d { nd l d with names := es }) j + cntN (nd l d).names j = cnt l j + cntN es j := cnt_set hlt _ j
    have h2 := hc j hj
    omega
  refine ⟨by obtain ⟨a, b, c⟩ := h.root; exact ⟨(hk 0).1.trans a, (hk 0).2.1.trans b, (hk 0).2.2.trans c⟩, fun j hj => ?_, fun j hj => ?_, fun j e he => ?_, fun j h0 hj hjk => ?_⟩
  · rw [(hk j).1] at hj
    rw [hnd, if_neg (by intro e; rw [e, hd] at hj; cases hj)]
    exact h.zero j hj
  · rw [(hk j).1] at hj
    rw [hnd]
    split
    · rename_i e
      subst e
      obtain ⟨a, b, c, _⟩ := h.loc j hj
      exact ⟨a, fun h => absurd hd h, c, hs⟩
    · exact h.loc j hj
  · have : ∃ i : Nat, e.2 = i ∧ i ≠ 0 ∧ (nd l i).kind ≠ 0 := by
      rw [hnd] at he
      split at he
      · exact hn e he
      · exact h.nam j e he
    obtain ⟨i, a, b, c⟩ := this
    exact ⟨i, a, b, by rw [(hk i).1]; exact c⟩
  · rw [(hk j).1] at hjk
    have hn := h.nmd j h0 (fun he => hj (hE j he)) hjk
    have hn' : NamedOk (l.set d { nd l d with names := es }) j (nd l j) := by
      refine hn.same (hcn j hj) (fun _ u hu => ?_) fun _ hr => hr.mono (fun _ => True) (fun k _ hk2 => ⟨(hk k).1.trans hk2, (hk k).2.1, fun _ _ _ => trivial⟩) fun _ _ _ => trivial
      rw [hnd]
      split
      · rename_i e; subst e; simp only; rw [hc j hj]; exact hu
      · exact hu
    rw [hnd]
    split
    · rename_i e
      subst e
      obtain ⟨a, b, c⟩ := hn'
      refine ⟨a, b, fun h2 => ?_⟩
      obtain ⟨c1, c2⟩ := c hd
      refine ⟨fun hz0 => ⟨hz h0 hj ((hcn j hj).symm.trans hz0), (c1 hz0).2⟩, c2⟩
    · exact hn'
theorem RigE.less {l : List NodeL} {E E' : Nat → Prop} (h : RigE l E) (hE : ∀ k, E k → E' k ∨ (k ≠ 0 → (nd l k).kind ≠ 0 → NamedOk l k (nd l k))) : RigE l E' := by
  refine ⟨h.root, h.zero, h.loc, h.nam, fun k h0 hk hkk => ?_⟩
  by_cases he : E k
  · exact (hE k he).resolve_left hk h0 hkk
  · exact h.nmd k h0 he hkk
theorem RigE.node {l : List NodeL} {E : Nat → Prop} (h : RigE l E) {y : Nat} (hy : E y) (h0 : y ≠ 0) (hlt : y < l.length) (n : NodeL) (hnm : n.names = (nd l y).names) (hl : n.kind ≠ 0 → LocOk n) (hz : n.kind = 0 → n = zeroN) (hk0 : n.kind = 0 → ∀ k, cntN (nd l k).names y = 0)
    (hr : ∀ k : Nat, k ≠ 0 → ¬ E k → (nd l k).kind = 2 → Rooted l k → Rooted (l.set y n) k) : RigE (l.set y n) E := by
  have hnd : ∀ j, nd (l.set y n) j = if j = y then n else nd l j := nd_set hlt _
  have hc : ∀ j : Int, cnt (l.set y n) j = cnt l j := fun j => by
    have := cnt_set hlt n j
    rw [hnm] at this
    omega
  have hns : ∀ j, (nd (l.set y n) j).names = (nd l j).names := fun j => by
    rw [hnd]; split
    · rename_i e; rw [e, hnm]
    · rfl
  refine ⟨by rw [hnd, if_neg (Ne.symm h0)]; exact h.root, fun j hj => ?_, fun j hj => ?_, fun j e he => ?_, fun j hj0 hj hjk => ?_⟩
  · rw [hnd] at hj ⊢
    split
    · rename_i e; rw [if_pos e] at hj; exact hz hj
    · rename_i e; rw [if_neg e] at hj; exact h.zero j hj
  · rw [hnd] at hj ⊢
    split
    · rename_i e; rw [if_pos e] at hj; exact hl hj
    · rename_i e; rw [if_neg e] at hj; exact h.loc j hj
  · rw [hns] at he
    obtain ⟨i, a, b, c⟩ := h.nam j e he
    refine ⟨i, a, b, ?_⟩
    rw [hnd]
    split
    · rename_i e1
      subst e1
      intro hn0
      have := cntN_zero.1 (hk0 hn0 j) e he
      exact this a
    · exact c
  · have hjy : j ≠ y := fun e => hj (e ▸ hy)
    rw [hnd, if_neg hjy] at hjk ⊢
    refine (h.nmd j hj0 hj hjk).same (hc j) (fun _ u hu => by rw [hns]; exact hu) fun h2 hr0 => hr j hj0 hj h2 hr0
end Go.Proofs.YtinoogmaikhpjaaGreatDoor
namespace Go.Proofs.YtinoogmaikhpjaaGreatDoor
def settleL (l : List NodeL) (i : Int) : List NodeL := if gotB l i = true ∧ i ≠ 0 ∧ (nodeL l i).links ≤ 0 ∧ (nodeL l i).opn ≤ 0 then setL l i zeroN else l
def writesL (l : List NodeL) (who d : Int) : Bool := mayB (nodeL l d).mode (nodeL l d).owner who 2
def putN (n : NodeL) (nm : Nm) (i : Int) : NodeL := { n with names := putL n.names (nm, i) }
def dropN (n : NodeL) (nm : Nm) : NodeL := { n with names := dropL n.names nm }
def namedL (l : List NodeL) (s : SpotL) (i : Int) : List NodeL := setL l s.dir (putN (nodeL l s.dir) s.name i)
def droppedL (l : List NodeL) (s : SpotL) : List NodeL := setL l s.dir (dropN (nodeL l s.dir) s.name)
def freeE (l : List NodeL) (who : Int) (s : SpotL) : Int := if 0 ≤ s.ino then 3 else if (nodeL l s.dir).links < 1 then 2 else if writesL l who s.dir = false then 7 else 0
abbrev ChgL := List NodeL × Int
abbrev MakL := List NodeL × Int × Int
def ownN (n : NodeL) (who : Int) : NodeL := { n with links := 1, owner := who }
def enterL (l : List NodeL) (most room who : Int) (s : SpotL) (n : NodeL) : MakL :=
  if freeE l who s ≠ 0 then (l, 0, freeE l who s)
  else if addE l most room (ownN n who) ≠ 0 then (l, 0, addE l most room (ownN n who))
  else (namedL (addL l most room (ownN n who)) s (addI l most room (ownN n who)), addI l most room (ownN n who), 0)
def fileN (mode : Int) : NodeL := ⟨1, mode % 64, 0, 0, 0, 0, [], []⟩
def dirN (mode up : Int) : NodeL := ⟨2, mode % 64, 0, 0, 0, up, [], []⟩
def linkN (text : Nm) : NodeL := ⟨3, 63, 0, 0, 0, 0, text, []⟩
def mkfileL (l : List NodeL) (most room who fr : Int) (path : Str) (mode : Int) : MakL :=
  if (walkL l who fr path false).2 ≠ 0 then (l, 0, (walkL l who fr path false).2)
  else if (walkL l who fr path false).1.slash = true ∧ (walkL l who fr path false).1.ino < 0 then (l, 0, 5)
  else enterL l most room who (walkL l who fr path false).1 (fileN mode)
def mkdirL (l : List NodeL) (most room who fr : Int) (path : Str) (mode : Int) : ChgL :=
  if (walkL l who fr path false).2 ≠ 0 then (l, (walkL l who fr path false).2)
  else ((enterL l most room who (walkL l who fr path false).1 (dirN mode (walkL l who fr path false).1.dir)).1, (enterL l most room who (walkL l who fr path false).1 (dirN mode (walkL l who fr path false).1.dir)).2.2)
def symlinkL (l : List NodeL) (most room who fr : Int) (text path : Str) : ChgL :=
  if text = [] then (l, 2) else if 100 < text.length then (l, 9)
  else if (walkL l who fr path false).2 ≠ 0 then (l, (walkL l who fr path false).2)
  else if (walkL l who fr path false).1.slash = true ∧ (walkL l who fr path false).1.ino < 0 then (l, 4)
  else ((enterL l most room who (walkL l who fr path false).1 (linkN text)).1, (enterL l most room who (walkL l who fr path false).1 (linkN text)).2.2)
def moreN (n : NodeL) : NodeL := { n with links := n.links + 1 }
def spotE (l : List NodeL) (who : Int) (R : ResL) : Int := if R.2 ≠ 0 then R.2 else freeE l who R.1
def linkL (l : List NodeL) (who fr : Int) (old path : Str) : ChgL :=
  if (wnodeL (walkL l who fr old false)).2 ≠ 0 then (l, (wnodeL (walkL l who fr old false)).2)
  else if (nodeL l (wnodeL (walkL l who fr old false)).1).kind = 2 then (l, 5)
  else if 20 ≤ (nodeL l (wnodeL (walkL l who fr old false)).1).links then (l, 11)
  else if spotE l who (walkL l who fr path false) ≠ 0 then (l, spotE l who (walkL l who fr path false))
  else if (walkL l who fr path false).1.slash = true then (l, 4)
  else (namedL (setL l (wnodeL (walkL l who fr old false)).1 (moreN (nodeL l (wnodeL (walkL l who fr old false)).1))) (walkL l who fr path false).1 (wnodeL (walkL l who fr old false)).1, 0)
def lessN (n : NodeL) : NodeL := { n with links := n.links - 1, up := if n.kind = 2 then 0 else n.up }
def lostL (l : List NodeL) (s : SpotL) : List NodeL := settleL (setL (droppedL l s) s.ino (lessN (nodeL (droppedL l s) s.ino))) s.ino
def thereE (R : ResL) : Int := if R.2 ≠ 0 then R.2 else if R.1.ino < 0 then 2 else 0
def unlinkL (l : List NodeL) (who fr : Int) (path : Str) : ChgL :=
  if thereE (walkL l who fr path false) ≠ 0 then (l, thereE (walkL l who fr path false))
  else if (nodeL l (walkL l who fr path false).1.ino).kind = 2 then (l, 5)
  else if writesL l who (walkL l who fr path false).1.dir = false then (l, 7)
  else (lostL l (walkL l who fr path false).1, 0)
def rmdirE (l : List NodeL) (who : Int) (s : SpotL) : Int :=
  if (nodeL l s.ino).kind ≠ 2 then 4 else if s.name = [] ∨ s.name = [46] then 1 else if s.name = [46, 46] then 6
  else if writesL l who s.dir = false then 7 else if (nodeL l s.ino).names ≠ [] then 6 else 0
def rmdirL (l : List NodeL) (who fr : Int) (path : Str) : ChgL :=
  if thereE (walkL l who fr path false) ≠ 0 then (l, thereE (walkL l who fr path false))
  else if rmdirE l who (walkL l who fr path false).1 ≠ 0 then (l, rmdirE l who (walkL l who fr path false).1)
  else (lostL l (walkL l who fr path false).1, 0)
def beneathL (l : List NodeL) : Nat → Int → Int → Bool
  | 0, _, _ => false
  | f + 1, i, top => if i = top then true else if i = 0 then false else beneathL l f (nodeL l i).up top
def dotsB (nm : Nm) : Bool := decide (nm = []) || decide (nm = [46]) || decide (nm = [46, 46])
def overE (l : List NodeL) (s t : SpotL) : Int :=
  if (nodeL l t.dir).links < 1 then 2
  else if (nodeL l s.ino).kind = 2 then
    if beneathL l (l.length + 1) t.dir s.ino = true then 15
    else if gotB l t.ino = true ∧ (nodeL l t.ino).kind ≠ 2 then 4
    else if gotB l t.ino = true ∧ (nodeL l t.ino).names ≠ [] then 6
    else 0
  else if gotB l t.ino = true ∧ (nodeL l t.ino).kind = 2 then 5
  else if t.slash = true then 4 else 0
def placeN (n : NodeL) (d : Int) : NodeL := { n with up := if n.kind = 2 then d else n.up }
def movedL (l : List NodeL) (s t : SpotL) : List NodeL := if 0 ≤ t.ino then lostL (droppedL l s) t else droppedL l s
def moveL (l : List NodeL) (s t : SpotL) : List NodeL :=
  setL (namedL (movedL l s t) t s.ino) s.ino (placeN (nodeL (namedL (movedL l s t) t s.ino) s.ino) t.dir)
def renameE (l : List NodeL) (who1 who2 : Int) (s t : SpotL) : Int :=
  if dotsB s.name = true ∨ dotsB t.name = true then 1
  else if writesL l who1 s.dir = false ∨ writesL l who2 t.dir = false then 7
  else if s.ino = t.ino then -1 else overE l s t
def renameL (l : List NodeL) (who1 fr1 who2 fr2 : Int) (old path : Str) : ChgL :=
  if thereE (walkL l who1 fr1 old false) ≠ 0 then (l, thereE (walkL l who1 fr1 old false))
  else if (walkL l who2 fr2 path false).2 ≠ 0 then (l, (walkL l who2 fr2 path false).2)
  else if renameE l who1 who2 (walkL l who1 fr1 old false).1 (walkL l who2 fr2 path false).1 = -1 then (l, 0)
  else if renameE l who1 who2 (walkL l who1 fr1 old false).1 (walkL l who2 fr2 path false).1 ≠ 0 then (l, renameE l who1 who2 (walkL l who1 fr1 old false).1 (walkL l who2 fr2 path false).1)
  else (moveL l (walkL l who1 fr1 old false).1 (walkL l who2 fr2 path false).1, 0)
def modeN (n : NodeL) (mode : Int) : NodeL := { n with mode := mode % 64 }
def chmodL (l : List NodeL) (who fr : Int) (path : Str) (mode : Int) : ChgL :=
  if (wnodeL (walkL l who fr path true)).2 ≠ 0 then (l, (wnodeL (walkL l who fr path true)).2)
  else if who ≠ 0 ∧ who ≠ (nodeL l (wnodeL (walkL l who fr path true)).1).owner then (l, 7)
  else (setL l (wnodeL (walkL l who fr path true)).1 (modeN (nodeL l (wnodeL (walkL l who fr path true)).1) mode), 0)
end Go.Proofs.YtinoogmaikhpjaaGreatDoor
namespace Go.Proofs.YtinoogmaikhpjaaGreatDoor
open Go.RowKit Go.Shelf
attribute [local go_sem ↓] Go.wp_at_zero Go.wp_at_succ
theorem code_fresh2 {P : Program} {a : Act} {w : World} {A B : Obj} {c : Code} {K : Exit → Act → World → Prop} (h : ∀ W, Below w.heap.size w W → W.heap[w.heap.size]? = some A → W.heap[w.heap.size + 1]? = some B → W.heap.size = w.heap.size + 2 → c.wp P K a W) : c.wp P K a ((w.alloc A).alloc B) := fresh2 (P := fun W => c.wp P K a W) h
def GivesX (X : Nat → Prop) (l : List NodeL) (v : Value) (W : World) : Prop := ∃ ms, pl ms = l ∧ RdM W.heap.size v ms W ∧ ∀ g, X g → AvoidM g v ms
def NodeX (X : Nat → Prop) (n : NodeL) (vn : Value) (W : World) : Prop := RdNm W.heap.size (n, vn) W ∧ ∀ g, X g → Avoid g vn
def Old (X : Nat → Prop) (W : World) : Prop := ∀ g, X g → g < W.heap.size
theorem GivesX.gives {X : Nat → Prop} {l : List NodeL} {v : Value} {W : World} (h : GivesX X l v W) : GivesN l v W := by
  obtain ⟨ms, a, b, _⟩ := h; exact ⟨ms, a, b⟩
theorem GivesX.keep {X : Nat → Prop} {l : List NodeL} {v : Value} {W W' : World} (h : GivesX X l v W) (hb : Below W.heap.size W W') : GivesX X l v W' := by
  obtain ⟨ms, a, b, c⟩ := h; exact ⟨ms, a, rdm_keep b hb, c⟩
theorem GivesX.sub {X Y : Nat → Prop} {l : List NodeL} {v : Value} {W : World} (h : GivesX X l v W) (hs : ∀ g, Y g → X g) : GivesX Y l v W := by
  obtain ⟨ms, a, b, c⟩ := h; exact ⟨ms, a, b, fun g hg => c g (hs g hg)⟩
theorem GivesX.add {X Y : Nat → Prop} {l : List NodeL} {v : Value} {W W' : World} (h : GivesX X l v W) (hb : Below W.heap.size W W') (hY : ∀ g, Y g → X g ∨ W.heap.size ≤ g) : GivesX Y l v W' := by
  obtain ⟨ms, a, b, c⟩ := h
  refine ⟨ms, a, rdm_keep b hb, fun g hg => ?_⟩
  rcases hY g hg with h1 | h1
  · exact c g h1
  · exact ⟨rd_far b.1 h1, fun x hx => rd_far (b.2 x hx) h1⟩
theorem GivesX.other {X : Nat → Prop} {l : List NodeL} {v : Value} {b : Nat} {W W' : World} (h : GivesX X l v W) (hX : X b) (hs : W'.heap.size = W.heap.size) (hg : ∀ g, g ≠ b → W'.heap[g]? = W.heap[g]?) : GivesX X l v W' := by
  obtain ⟨ms, a, h1, c⟩ := h
  refine ⟨ms, a, ?_, c⟩
  rw [hs]
  exact rdm_other h1 (c b hX).1 (fun x hx => (c b hX).2 x hx) hg
theorem NodeX.keep {X : Nat → Prop} {n : NodeL} {vn : Value} {W W' : World} (h : NodeX X n vn W) (hb : Below W.heap.size W W') : NodeX X n vn W' := ⟨rdnm_keep h.1 hb, h.2⟩
theorem NodeX.sub {X Y : Nat → Prop} {n : NodeL} {vn : Value} {W : World} (h : NodeX X n vn W) (hs : ∀ g, Y g → X g) : NodeX Y n vn W := ⟨h.1, fun g hg => h.2 g (hs g hg)⟩
theorem NodeX.add {X Y : Nat → Prop} {n : NodeL} {vn : Value} {W W' : World} (h : NodeX X n vn W) (hb : Below W.heap.size W W') (hY : ∀ g, Y g → X g ∨ W.heap.size ≤ g) : NodeX Y n vn W' :=
  ⟨rdnm_keep h.1 hb, fun g hg => (hY g hg).elim (h.2 g) fun h1 => rd_far h.1 h1⟩
theorem NodeX.other {X : Nat → Prop} {n : NodeL} {vn : Value} {b : Nat} {W W' : World} (h : NodeX X n vn W) (hX : X b) (hs : W'.heap.size = W.heap.size) (hg : ∀ g, g ≠ b → W'.heap[g]? = W.heap[g]?) : NodeX X n vn W' := by
  refine ⟨?_, h.2⟩
  rw [hs]
  exact rd_other h.1 (h.2 b hX) hg
theorem NodeX.zero (X : Nat → Prop) (W : World) : NodeX X zeroN (.slice none 0 0) W := ⟨Rd.none0 _ _ _, fun g _ a n c e _ => by cases e⟩
theorem NodeX.same {X : Nat → Prop} {n m : NodeL} {vn : Value} {W : World} (h : NodeX X n vn W) (e : m.names = n.names) : NodeX X m vn W := by
  refine ⟨?_, h.2⟩
  have h1 := h.1
  unfold RdNm at h1 ⊢
  rw [e]
  exact h1
theorem Old.keep {X : Nat → Prop} {W W' : World} (h : Old X W) (hb : W.heap.size ≤ W'.heap.size) : Old X W' := fun g hg => Nat.lt_of_lt_of_le (h g hg) hb
theorem gives_form {X : Nat → Prop} {l : List NodeL} {v : Value} {W : World} (h : GivesX X l v W) : ∃ ao cap, v = .slice ao l.length cap := by
  obtain ⟨ms, rfl, hv, _⟩ := h
  obtain ⟨ao, cap, e, _, _⟩ := rdm_form hv
  exact ⟨ao, cap, by rw [pl_len]; exact e⟩
theorem node_form {X : Nat → Prop} {n : NodeL} {v : Value} {W : World} (h : NodeX X n v W) : ∃ ao cap, v = .slice ao n.names.length cap := by
  obtain ⟨ao, cap, e, _, _⟩ := Rd.form h.1
  exact ⟨ao, cap, e⟩
def RGetX (v : Value) (ms : List NodeM) (i : Int) (e : Ending) (W W' : World) : Prop :=
  ∃ vn, e = .returned (.tuple #[nval (getL (pl ms) i) vn, .bool (gotB (pl ms) i)]) ∧ RdNm W'.heap.size (getL (pl ms) i, vn) W' ∧ Below W.heap.size W W' ∧ ∀ g, AvoidM g v ms → Avoid g vn
theorem getx_no {v : Value} {ms : List NodeM} {i : Int} {w W : World} (h : gotB (pl ms) i = false) (hb : Below w.heap.size w W) : RGetX v ms i (.returned (.tuple #[.agg #[.int .i64 0, .int .i64 0, .int .i64 0, .int .i64 0, .int .i64 0, .int .i64 0, .string ⟨#[]⟩, .slice none 0 0], .bool false])) w W :=
  ⟨.slice none 0 0, by unfold getL; rw [h]; rfl, by unfold getL; rw [h]; exact Rd.none0 _ _ _, hb, fun g _ a n c e _ => by cases e⟩
set_option maxRecDepth 100000 in
set_option maxHeartbeats 2000000 in
theorem rgetx_any (v : Value) (ms : List NodeM) (most room i : Int) (w : World) (hv : RdM w.heap.size v ms w) (hl : ms.length ≤ 10000) :
    Calls Tryz.prog 18 #[.agg #[v, .int .i64 most, .int .i64 room], .int .i64 i] w fun e w' => RGetX v ms i e w w' := by
  obtain ⟨ao, cap, rfl, _, _⟩ := rdm_form hv
  have HV := Lib.hid hv
  have HL := Lib.hid hl
  clear hv
  have hret : ∀ (W : World) (cs : Array Value) (fr), W.heap[w.heap.size + 1]? = some (.cells cs 70 fr) → cs.size = 8 → ∀ tmps : Array Value, tmps.getD 4 undef = .pointer (some ⟨w.heap.size + 1, 0, none⟩) → (results Tryz.f18 tmps).run Tryz.prog W = .ok (.tuple #[.agg cs, tmps.getD 5 undef]) W := fun W cs fr h hs tmps ht =>
    results_ct (p := 4) (u := 5) (ty := 70) rfl tmps W (w.heap.size + 1) _ cs fr _ ht h Tryz.underlying70 rfl (by rw [hs]; kernel_rfl)
  have no : ∀ W : World, gotB (pl ms) i = false → Below w.heap.size w W → RGetX (.slice ao ms.length cap) ms i (.returned (.tuple #[.agg #[.int .i64 0, .int .i64 0, .int .i64 0, .int .i64 0, .int .i64 0, .int .i64 0, .string ⟨#[]⟩, .slice none 0 0], .bool false])) w W := fun _ h hb => getx_no h hb
  have HNO := Lib.hid no
  clear no
  by_cases h1 : i < 0
  · have hI : decide (i < 0) = true := by simpa using h1
    have HG : Hid (gotB (pl ms) i = false) := Lib.hid (by unfold gotB inL; rw [show decide (0 ≤ i) = false by simp; omega]; rfl)
    clear h1
    go_enter Tryz.func18, Tryz.ntmps18
    go_wp2_with fail
    refine fresh2 (P := fun W => bodyPost _ _ _ _ _ W) ?_
    intro W0 hb0 hP hQ hs0
    refine bodyPost_ret (hret _ _ _ hQ rfl _ rfl) rfl ?_
    exact HNO.out _ HG.out hb0
  have g1 : decide (i < 0) = false := by simpa using h1
  by_cases h2 : (ms.length : Int) ≤ i
  · have hI : decide ((ms.length : Int) ≤ i) = true := by simpa using h2
    have HG : Hid (gotB (pl ms) i = false) := Lib.hid (by unfold gotB inL; rw [show decide (i < (pl ms).length) = false by rw [pl_len]; simpa using h2]; simp)
    clear h1 h2
    go_enter Tryz.func18, Tryz.ntmps18
    go_wp2_with fail
    refine fresh2 (P := fun W => bodyPost _ _ _ _ _ W) ?_
    intro W0 hb0 hP hQ hs0
    refine bodyPost_ret (hret _ _ _ hQ rfl _ rfl) rfl ?_
    exact HNO.out _ HG.out hb0
  have g2 : decide ((ms.length : Int) ≤ i) = false := by simpa using h2
  obtain ⟨k, rfl, hk⟩ : ∃ k : Nat, i = k ∧ k < ms.length := ⟨i.toNat, by omega, by omega⟩
  have hin := nat_in (l := pl ms) (k := k) (by rw [pl_len]; exact hk)
  have hat := at_nat (pl ms) k (by rw [pl_len]; exact hk)
  have k0 : (0 : Int) ≤ (k : Int) := by omega
  have k1 : (k : Int) < (ms.length : Int) := by omega
  obtain ⟨b, off, n, aon, capn, rfl, hb, hn, hmk, hrn, c0, c1, c2, c3, c4, c5, c6, c7⟩ := node_at HV.out k hk
  rw [hn] at hat
  by_cases h0 : n.kind = 0
  · have hd : (n.kind == 0) = true := by simpa using h0
    have HG : Hid (gotB (pl ms) k = false) := Lib.hid (by unfold gotB; rw [hat]; simp [h0])
    clear h0 h1 h2 hin hat hn hrn
    try clear hmk
    go_enter Tryz.func18, Tryz.ntmps18
    go_wp2_with fail
    refine fresh2 (P := fun W => bodyPost _ _ _ _ _ W) ?_
    intro W0 hb0 hP hQ hs0
    refine bodyPost_ret (hret _ _ _ hQ rfl _ rfl) rfl ?_
    exact HNO.out _ HG.out hb0
  · have hd : (n.kind == 0) = false := by simpa using h0
    have HG : Hid (gotB (pl ms) k = true) := Lib.hid (by unfold gotB; rw [hat, hin]; simp [h0])
    have HGe : Hid (getL (pl ms) k = n) := Lib.hid (by unfold getL; rw [HG.out, hat]; rfl)
    have HR := Lib.hid hrn
    have HA : Hid (∀ g, AvoidM g (.slice (some ⟨b, off, none⟩) ms.length cap) ms → Avoid g (.slice aon n.names.length capn)) := Lib.hid fun g hg => by have := hg.2 _ (List.getElem_mem hk); rw [hmk] at this; exact this
    clear hmk
    clear h0 h1 h2 hin hat hn hrn
    try clear hmk
    go_enter Tryz.func18, Tryz.ntmps18
    go_wp2_with fail
    refine fresh2 (P := fun W => bodyPost _ _ _ _ _ W) ?_
    intro W0 hb0 hP hQ hs0
    refine bodyPost_ret (hret _ _ _ hQ rfl _ rfl) rfl ?_
    exact ⟨.slice aon n.names.length capn, by rw [HGe.out, HG.out]; rfl, by rw [HGe.out]; exact rd_keep HR.out hb0, hb0, HA.out⟩
theorem rget_g (X : Nat → Prop) (l : List NodeL) (most room i : Int) (v : Value) (W : World) (hg : GivesX X l v W) (hl : l.length ≤ 10000) :
    Calls Tryz.prog 18 #[.agg #[v, .int .i64 most, .int .i64 room], .int .i64 i] W fun e w' => ∃ ao cap, e = .returned (.tuple #[nval (nodeL l i) (.slice ao (nodeL l i).names.length cap), .bool (gotB l i)]) ∧ NodeX X (nodeL l i) (.slice ao (nodeL l i).names.length cap) w' ∧ Below W.heap.size W w' := by
  obtain ⟨m, rfl, h, ha⟩ := hg
  refine (rgetx_any v m most room i W h (by rw [← pl_len]; exact hl)).mono ?_
  rintro e w' ⟨v1, rfl, hr, hb, hav⟩
  have hgl : getL (pl m) i = nodeL (pl m) i := by unfold getL nodeL; cases gotB (pl m) i <;> rfl
  rw [hgl] at hr ⊢
  have hN : NodeX X (nodeL (pl m) i) v1 w' := ⟨hr, fun g hx => hav g (ha g hx)⟩
  obtain ⟨ao, cap, rfl⟩ := node_form hN
  exact ⟨ao, cap, rfl, hN, hb⟩
end Go.Proofs.YtinoogmaikhpjaaGreatDoor
