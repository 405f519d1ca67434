/-
  A statement's state, of a disk that is looked at; its, Same.
-/
import Derived.Test.YthpcldmhamjnbaaCntSet
import Derived.Test.YthpcldmhamjnbaaDskB
import Derived.Deep.RegionHeld3
import Derived.Deep.RegionLaw
import Derived.Handy
namespace Go.Proofs.Ythpcldmhamjnbaa
open Go.RowKit Go.Shelf
attribute [local go_sem ↓] Go.wp_at_zero Go.wp_at_succ

/-- The contracts, of whatever reads as these nodes. -/
theorem its_g (l : List NodeL) (a b : Int) (hl : l.length ≤ 10000) (hnl : ∀ n ∈ l, n.names.length ≤ 10000) (v : Value) (W : World) (hg : GivesN l v W) :
    Calls Try.prog 13 #[.agg #[v, .int .i64 a, .int .i64 b]] W fun e w' => ∃ v', e = .returned (.agg #[v', .int .i64 a, .int .i64 b]) ∧ GivesN l v' w' ∧ Below W.heap.size W w' := by
  obtain ⟨m, rfl, h⟩ := hg
  exact its_any v m a b W h (by rw [← pl_len]; exact hl) hnl
/-- A statement's state: blocks of its own, the disks that it reads, the nodes. -/
structure Sn (w : World) (B : List Bl) (G : List (List NodeL × Value)) (N : List (NodeL × Value)) (W : World) : Prop where
  bel : Below w.heap.size w W
  blk : ∀ x ∈ B, W.heap[x.1]? = some (.cells x.2.1 x.2.2 (0, 0))
  gv : ∀ x ∈ G, GivesN x.1 x.2 W
  nv : ∀ x ∈ N, RdNm W.heap.size (x.1, x.2) W
theorem gives_no {l : List NodeL} {v : Value} {W : World} (h : GivesN l v W) : GivesX (fun _ => False) l v W := by
  obtain ⟨m, a, b⟩ := h
  exact ⟨m, a, b, fun g hg => hg.elim⟩
theorem old_no {W : World} : Old (fun _ => False) W := fun _ h => h.elim
section
variable {w W W' : World} {B : List Bl} {G : List (List NodeL × Value)} {N : List (NodeL × Value)}
theorem Sn.start {l : List NodeL} {v : Value} (hG : GivesN l v w) : Sn w [] [(l, v)] [] w := ⟨Below.refl _ _, (fun _ h => by cases h), (fun x hx => by rw [List.mem_singleton] at hx; subst hx; exact hG), (fun _ h => by cases h)⟩
theorem Sn.none : Sn w [] [] [] w := ⟨Below.refl _ _, (fun _ h => by cases h), (fun _ h => by cases h), (fun _ h => by cases h)⟩
theorem Sn.two {l l2 : List NodeL} {v v2 : Value} (hG : GivesN l v w) (hG2 : GivesN l2 v2 w) : Sn w [] [(l, v), (l2, v2)] [] w := ⟨Below.refl _ _, (fun _ h => by cases h), (fun x hx => by
  simp only [List.mem_cons, List.not_mem_nil, or_false] at hx
  rcases hx with rfl | rfl
  · exact hG
  · exact hG2), (fun _ h => by cases h)⟩
theorem Sn.lt (h : Sn w B G N W) {x : Bl} (hx : x ∈ B) : x.1 < W.heap.size := (Array.getElem?_eq_some_iff.1 (h.blk x hx)).1
theorem Sn.call (h : Sn w B G N W) (hb : Below W.heap.size W W') : Sn w B G N W' :=
  ⟨ret_tr h.bel hb, fun x hx => (hb.block _ (h.lt hx)).trans (h.blk x hx), fun x hx => (h.gv x hx).keep hb, fun x hx => rdnm_keep (h.nv x hx) hb⟩
theorem Sn.news (h : Sn w B G N W) (hb : Below W.heap.size W W') (C : List Bl) (hC : ∀ x ∈ C, W'.heap[x.1]? = some (.cells x.2.1 x.2.2 (0, 0))) : Sn w (B ++ C) G N W' :=
  ⟨ret_tr h.bel hb, fun x hx => by
    rcases List.mem_append.1 hx with hx | hx
    · exact (hb.block _ (h.lt hx)).trans (h.blk x hx)
    · exact hC x hx, fun x hx => (h.gv x hx).keep hb, fun x hx => rdnm_keep (h.nv x hx) hb⟩
theorem Sn.new1 (h : Sn w B G N W) (hb : Below W.heap.size W W') {cs0 : Array Value} {t0 : TypeId} (h0 : W'.heap[W.heap.size]? = some (.cells cs0 t0 (0, 0))) : Sn w (B ++ [(W.heap.size, cs0, t0)]) G N W' :=
  h.news hb _ (fun x hx => by
    simp only [List.mem_cons, List.not_mem_nil, or_false] at hx
    subst hx
    exact h0)
theorem Sn.new2 (h : Sn w B G N W) (hb : Below W.heap.size W W') {cs0 cs1 : Array Value} {t0 t1 : TypeId} (h0 : W'.heap[W.heap.size]? = some (.cells cs0 t0 (0, 0))) (h1 : W'.heap[W.heap.size + 1]? = some (.cells cs1 t1 (0, 0))) : Sn w (B ++ [(W.heap.size, cs0, t0), (W.heap.size + 1, cs1, t1)]) G N W' :=
  h.news hb _ (fun x hx => by
    simp only [List.mem_cons, List.not_mem_nil, or_false] at hx
    rcases hx with rfl | rfl
    · exact h0
    · exact h1)
theorem Sn.new3 (h : Sn w B G N W) (hb : Below W.heap.size W W') {cs0 cs1 cs2 : Array Value} {t0 t1 t2 : TypeId} (h0 : W'.heap[W.heap.size]? = some (.cells cs0 t0 (0, 0))) (h1 : W'.heap[W.heap.size + 1]? = some (.cells cs1 t1 (0, 0))) (h2 : W'.heap[W.heap.size + 2]? = some (.cells cs2 t2 (0, 0))) : Sn w (B ++ [(W.heap.size, cs0, t0), (W.heap.size + 1, cs1, t1), (W.heap.size + 2, cs2, t2)]) G N W' :=
  h.news hb _ (fun x hx => by
    simp only [List.mem_cons, List.not_mem_nil, or_false] at hx
    rcases hx with rfl | rfl | rfl
    · exact h0
    · exact h1
    · exact h2)
theorem Sn.at (h : Sn w B G N W) (k : Nat) {b : Nat} {cs : Array Value} {t : TypeId} (hk : B[k]? = some (b, cs, t)) : W.heap[b]? = some (.cells cs t (0, 0)) := h.blk _ (List.mem_of_getElem? hk)
theorem Sn.at' (h : Sn w B G N W) (hb : Below W.heap.size W W') (k : Nat) {b : Nat} {cs : Array Value} {t : TypeId} (hk : B[k]? = some (b, cs, t)) : W'.heap[b]? = some (.cells cs t (0, 0)) := (h.call hb).at k hk
theorem Sn.addG (h : Sn w B G N W) {l : List NodeL} {v : Value} (hg : GivesN l v W) : Sn w B (G ++ [(l, v)]) N W :=
  ⟨h.bel, h.blk, fun x hx => by
    rcases List.mem_append.1 hx with hx | hx
    · exact h.gv x hx
    · rw [List.mem_singleton] at hx; subst hx; exact hg, h.nv⟩
theorem Sn.addN (h : Sn w B G N W) {n : NodeL} {v : Value} (hn : RdNm W.heap.size (n, v) W) : Sn w B G (N ++ [(n, v)]) W :=
  ⟨h.bel, h.blk, h.gv, fun x hx => by
    rcases List.mem_append.1 hx with hx | hx
    · exact h.nv x hx
    · rw [List.mem_singleton] at hx; subst hx; exact hn⟩
theorem Sn.g (h : Sn w B G N W) (k : Nat) {l : List NodeL} {v : Value} (hk : G[k]? = some (l, v)) : GivesN l v W := h.gv _ (List.mem_of_getElem? hk)
theorem Sn.n (h : Sn w B G N W) (k : Nat) {n : NodeL} {v : Value} (hk : N[k]? = some (n, v)) : RdNm W.heap.size (n, v) W := h.nv _ (List.mem_of_getElem? hk)
theorem Sn.gx (h : Sn w B G N W) (k : Nat) {l : List NodeL} {v : Value} (hk : G[k]? = some (l, v)) : GivesX (fun _ => False) l v W := gives_no (h.g k hk)
theorem Sn.st (h : Sn w B G N W) : St (fun _ => False) W [] G [] W := St.start old_no (fun x hx => gives_no (h.gv x hx)) (fun _ h => by cases h)
theorem Sn.of {X : Nat → Prop} {C : List Bl} {G' : List (List NodeL × Value)} (h : Sn w B G N W) (t : St X W C G' [] W') : Sn w (B ++ C) G' N W' :=
  ⟨ret_tr h.bel t.bel, fun x hx => by
    rcases List.mem_append.1 hx with hx | hx
    · exact (t.bel.block _ (h.lt hx)).trans (h.blk x hx)
    · exact (t.blk x hx).1, fun x hx => (t.gv x hx).gives, fun x hx => rdnm_keep (h.nv x hx) t.bel⟩
end
theorem its_f (l : List NodeL) (a b : Int) (hl : l.length ≤ 10000) (hnl : ∀ n ∈ l, n.names.length ≤ 10000) (v : Value) (W : World) (hg : GivesN l v W) :
    Calls Try.prog 13 #[.agg #[v, .int .i64 a, .int .i64 b]] W fun e w' => ∃ ao cap, e = .returned (diskV ao l.length cap a b) ∧ GivesN l (.slice ao l.length cap) w' ∧ Below W.heap.size W w' := by
  refine (its_g l a b hl hnl v W hg).mono ?_
  rintro e w' ⟨v', rfl, h1, h2⟩
  obtain ⟨ao, cap, rfl⟩ := gives_form (gives_no h1)
  exact ⟨ao, cap, rfl, h1, h2⟩
theorem same_g (l : List NodeL) (a b : Int) (hl : l.length ≤ 10000) (hnl : ∀ n ∈ l, n.names.length ≤ 10000) (v v' : Value) (W : World) (hg : GivesN l v W) (hg' : GivesN l v' W) :
    Calls Try.prog 20 #[.agg #[v, .int .i64 a, .int .i64 b], .agg #[v', .int .i64 a, .int .i64 b]] W fun e w' => e = .returned (.bool true) ∧ Below W.heap.size W w' := by
  obtain ⟨m, rfl, h⟩ := hg
  obtain ⟨m', h1, h'⟩ := hg'
  have := sameD_any v v' m m' a b a b W h h' (by rw [← pl_len]; exact hl) hnl (by rw [h1]; exact hnl)
  rw [h1] at this
  have e : sameD (pl m) (pl m) a b a b = true := by unfold sameD; simp
  rw [e] at this
  exact this
open Go.Lib in
set_option maxRecDepth 100000 in
set_option maxHeartbeats 4000000 in
theorem its_x (v : Value) (ms : List NodeM) (most room : Int) (w : World) (hv : RdM w.heap.size v ms w) (hl : ms.length ≤ 10000) (hnl : ∀ n ∈ pl ms, n.names.length ≤ 10000) :
    Calls Try.prog 13 #[.agg #[v, .int .i64 most, .int .i64 room]] w fun e w' => ∃ v', e = .returned (.agg #[v', .int .i64 most, .int .i64 room]) ∧ GivesX (fun g => g < w.heap.size) (pl ms) v' w' ∧ Below w.heap.size w w' := by
  obtain ⟨ao, cap, rfl, _, _⟩ := rdm_form hv
  obtain ⟨i0, hi, hz0, hz1, hz2⟩ := info_parts infoRNode
  have HV := Lib.hid hv
  have HNL := Lib.hid hnl
  clear hv hnl
  go_enter Try.func13, Try.ntmps13
  go_wp2_with fail
  refine fresh3 (P := fun W => Code.wp _ _ _ _ W) ?_
  intro W0 hb0 hP hR hO hs0
  go_loopw [4] (fun i wr => ∃ (k : Nat) (vo : Value) (mo : List NodeM), i = .int .i64 k ∧ k ≤ ms.length ∧ Hid (pl mo = (pl ms).take k) ∧ Hid (OutD (w.heap.size + 2) most room mo vo wr) ∧ Below (w.heap.size + 2) W0 wr) (fun i _ => ms.length - (RowKit.intOf i).toNat)
  case atStart => exact ⟨0, _, [], rfl, Nat.zero_le _, Lib.hid rfl, Lib.hid ⟨hO, World.ownsRow_nil _ _ _ _, fun m hm => by cases hm⟩, Below.refl _ _⟩
  case round =>
    obtain ⟨k, vo, mo, rfl, hk, hmo, hOD, hBr⟩ := hrel
    have sB := hBr.size
    have hPr := (hBr.block _ (by omega)).trans hP
    obtain ⟨p0, p1, p2⟩ := cells3 hPr
    have hBw : Below w.heap.size w wr := hb0.trans (hBr.mono (by omega))
    have hbW := hOD.out.lt
    have hml : mo.length = k := by rw [← pl_len, hmo.out, List.length_take, pl_len]; omega
    by_cases hlt : k < ms.length
    · obtain ⟨b, off, n, aon, capn, rfl, hb, hn, hmk, hrn, c0, c1, c2, c3, c4, c5, c6, c7⟩ := node_at (HV.out.below hBw) k hlt
      have hnn : n.names.length ≤ 10000 := HNL.out n (by rw [← hn]; exact List.getElem_mem _)
      have ht : Hid ((pl ms).take (k + 1) = pl mo ++ [n]) := Lib.hid (by rw [hmo.out, ← hn]; exact List.take_succ_eq_append_getElem (by rw [pl_len]; exact hlt))
      have ne1 : vo.ownBlock ≠ some (w.heap.size + 2) := fun e => by have := (hOD.out.own.lt _ e).1; omega
      have HNR : Hid (RdNm wr.heap.size (n, .slice aon n.names.length capn) wr.drew) := Lib.hid (Rd.mono (show Rd w.heap.size 2 _ _ _ wr.drew from hrn) hBw.size)
      have cb1 : wr.cell? ⟨w.heap.size + 2, 0, none⟩ = some vo := by rw [Lib.cell_of_heap hOD.out.blk]; rfl
      have hod : OutD (w.heap.size + 2) most room mo vo wr.drew := hOD.out.below ((Below.refl _ _).drew)
      have HODD := Lib.hid hod
      clear hP hR hO hPr hn hmk hrn hod
      go_wp2_with fail
      go_region_law
        (first
          | (go_simp; go_at_call 26; with_reducible refine (node_any n (.slice aon n.names.length capn) _ HNR.out hnn).mono ?_; rintro e w1 ⟨vn, rfl, hownN, hbN⟩; have hD1 := HODD.out.below hbN; have hlt1 := hD1.lt; have hownD := hD1.own; have oneN : ∀ u ∈ ncells (n, vn), u.oneCell' = true := ncells_one hownN; have hownN' := own_mono hownN hbW; have belowN := drew_below hbN (Nat.le_of_lt hbW); have hbD : w.heap.size + 2 + 1 ≤ (w1.alloc (.cells #[.int .i64 n.kind, .int .i64 n.mode, .int .i64 n.owner, .int .i64 n.links, .int .i64 n.opn, .int .i64 n.up, .string (bs n.data), vn] 53)).heap.size := (by have := hD1.lt; simp; omega); have fc1 : w1.cell? ⟨w.heap.size + 2, 0, none⟩ = some vo := hD1.c0; have fcD := hD1.ca; have ffD := hD1.fa)
          | (refine step_append_lies _ (by rfl) _ _ _ (by rfl) (w.heap.size + 2 + 1) 53 i0 _ 8 88 Try.underlying31 hi hz0 hz1 hz2 rfl (by omega) vo mo.length (cellsN mo) (by rfl) (hownD.alloc _)
              ⟨w1.heap.size, 0, none⟩ 1 1 (ncells (n, vn)) (by rfl) (by rfl) (World.news_of_block (cs := #[.int .i64 n.kind, .int .i64 n.mode, .int .i64 n.owner, .int .i64 n.links, .int .i64 n.opn, .int .i64 n.up, .string (bs n.data), vn]) (t := 53) (fr := (0, 0)) (heap_alloc_new w1 _)) oneN
              (by omega) (by unfold maxLen; omega) (by omega) hbD (w1.heap.size + 1) (by simp) ?_; intro gg cap w2 hown2 hgrow hat hlt2; have ff2 : w2.frozen? ⟨w.heap.size + 2, 0, none⟩ = false := (hgrow.frozen_far ⟨w.heap.size + 2, 0, none⟩ (by simp; omega) (Ne.symm ne1)).trans (ffD _); have fc2 : w2.cell? ⟨w.heap.size + 2, 0, none⟩ = some vo := (hgrow.cell_far ⟨w.heap.size + 2, 0, none⟩ (by simp; omega) (Ne.symm ne1)).trans (fcD _)))
      all_goals
        have hON' := Lib.hid (hD1.put (n, vn) hownN' _ hgrow hown2)
        have hB4 : Below (w.heap.size + 2) W0 w2 := hBr.trans (belowN.trans (((Below.refl (w.heap.size + 2) w1).alloc (Nat.le_of_lt hlt1) _).grown hgrow (by simp; omega) (fun g hg => Nat.le_trans (Nat.le_succ _) (hownD.lt g hg).1)))
        clear ff2 fc2 hgrow hat hown2 fc1 fcD ffD
        go_wp2_with fail
        go_roundw
        case rel => exact ⟨k + 1, _, mo ++ [(n, vn)], by go_num, hlt, Lib.hid (by rw [ht.out]; simp [pl]), hml ▸ hON', hB4.setCell (p := ⟨w.heap.size + 2, 0, none⟩) (Nat.le_refl _) _⟩
        case measure => simp [RowKit.intOf]; omega
    · have hke : k = ms.length := by omega
      have HT : Hid (pl mo = pl ms) := Lib.hid (by rw [hmo.out, hke, ← pl_len, List.take_length])
      have hI2 : decide (k < ms.length) = false := by simp; omega
      have hRr := (hBr.block _ (by omega)).trans hR
      obtain ⟨r0, r1, r2⟩ := cells3 hRr
      have rf := fun j => Lib.frozen_of_heap hRr j
      obtain ⟨o0, o1, o2⟩ := cells3 hOD.out.blk
      obtain ⟨aov, capv, rfl⟩ := own_form hOD.out.own
      clear hke hlt
      go_wp2_with fail
      refine sets3 (P := fun W => bodyPost _ _ _ _ _ W) hRr ?_
      intro W3 hb3 hg3 hs3 hR3
      have hown3 : RdM W3.heap.size (.slice aov mo.length capv) mo W3 := ⟨Rd.own (ownsRow_other hOD.out.own fun g hg => hg3 g (by omega)) (Nat.le_refl _), fun m hm => Rd.own (ownsRow_other (hOD.out.nms m hm) fun g hg => hg3 g (by omega)) (Nat.le_refl _)⟩
      have hB3 : Below w.heap.size w W3 := hBw.trans (hb3.mono (by omega))
      have hav : ∀ g, g < w.heap.size → AvoidM g (.slice aov mo.length capv) mo := fun g hg => ⟨own_far hOD.out.own (by omega), fun m hm => own_far (hOD.out.nms m hm) (by omega)⟩
      rw [hml] at hown3 hav
      clear r0 r1 r2 o0 o1 o2 rf
      (try simp only [Exit.inBlock, Exit.then])
      refine bodyPost_ret (results_cell_row (p := 2) (ty := 33) rfl _ W3 (w.heap.size + 1) _ _ _ _ rfl hR3 Try.underlying33 rfl (by kernel_rfl)) rfl ?_
      exact ⟨_, rfl, ⟨mo, HT.out, hown3, hav⟩, hB3⟩
/-- Its contract, in no old block. -/
theorem its_y (X : Nat → Prop) (l : List NodeL) (a b : Int) (hl : l.length ≤ 10000) (hnl : ∀ n ∈ l, n.names.length ≤ 10000) (v : Value) (W : World) (hX : Old X W) (hg : GivesN l v W) :
    Calls Try.prog 13 #[.agg #[v, .int .i64 a, .int .i64 b]] W fun e w' => ∃ ao cap, e = .returned (diskV ao l.length cap a b) ∧ GivesX X l (.slice ao l.length cap) w' ∧ Below W.heap.size W w' := by
  obtain ⟨m, rfl, h⟩ := hg
  refine (its_x v m a b W h (by rw [← pl_len]; exact hl) hnl).mono ?_
  rintro e w' ⟨v', rfl, h1, h2⟩
  have h3 := h1.sub (Y := X) fun g hg => hX g hg
  obtain ⟨ao, cap, rfl⟩ := gives_form h3
  exact ⟨ao, cap, rfl, h3, h2⟩
/-- A disk, told with an error, in no block of X. -/
def ChgX (X : Nat → Prop) (l : List NodeL) (n most room : Int) (e : Ending) (w w' : World) : Prop :=
  ∃ ao cap, e = .returned (.tuple #[diskV ao l.length cap most room, .int .i64 n]) ∧ GivesX X l (.slice ao l.length cap) w' ∧ Below w.heap.size w w'
/-- What a region that draws leaves: a disk in a new block. -/
def CutD (W : World) (l : List NodeL) (most room : Int) (t : TypeId) (s : Value) (W' : World) : Prop :=
  ∃ b ao cap, s = .pointer (some ⟨b, 0, none⟩) ∧ W'.heap[b]? = some (.cells #[.slice ao l.length cap, .int .i64 most, .int .i64 room] t (0, 0)) ∧ GivesN l (.slice ao l.length cap) W' ∧ Below W.heap.size W W'
theorem Sn.add1 {w W W' : World} {B : List Bl} {G : List (List NodeL × Value)} {N : List (NodeL × Value)} (h : Sn w B G N W) (hb : Below W.heap.size W W') {b : Nat} {cs : Array Value} {t : TypeId} (h0 : W'.heap[b]? = some (.cells cs t (0, 0))) : Sn w (B ++ [(b, cs, t)]) G N W' :=
  h.news hb _ (fun x hx => by
    simp only [List.mem_cons, List.not_mem_nil, or_false] at hx
    subst hx
    exact h0)
end Go.Proofs.Ythpcldmhamjnbaa
