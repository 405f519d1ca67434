/-
  The statements' node and its.
-/
import Derived.Test.YthpcldmhamjnbaaDskA
import Derived.Test.YthpcldmhamjnbaaLay5
import Derived.Deep.RegionHeld3
import Derived.Deep.RegionLaw
import Derived.Handy
namespace Go.Proofs.Ythpcldmhamjnbaa
open Go.RowKit Go.Shelf Go.Lib
attribute [local go_sem ↓] Go.wp_at_zero Go.wp_at_succ

theorem ownsRow_grown {W W' : World} {base : Nat} {e : TypeId} {size n : Nat} {v : Value} {xs : List Value} {row : Option Nat} (h : W.ownsRow base e size v n xs) (hg : W.grownBy W' row) (hne : ∀ g, v.ownBlock = some g → row ≠ some g) : W'.ownsRow base e size v n xs := by
  refine ⟨h.1, h.2.imp id ?_⟩
  rintro ⟨g, cap, cur, rfl, h2, h3, h4⟩
  exact ⟨g, cap, cur, rfl, h2, (hg.block g (Array.getElem?_eq_some_iff.1 h3).1 (fun e => hne g rfl e.symm)).trans h3, h4⟩
theorem own_ne {W : World} {b1 b2 : Nat} {e1 e2 : TypeId} {s1 s2 n1 n2 : Nat} {v1 v2 : Value} {x1 x2 : List Value} (h : W.ownsRow b1 e1 s1 v1 n1 x1) (h' : W.ownsRow b2 e2 s2 v2 n2 x2) (hne : e1 ≠ e2) : ∀ g, v1.ownBlock = some g → v2.ownBlock ≠ some g := by
  intro g hg hg'
  rcases h.2 with ⟨rfl, _⟩ | ⟨g1, cap1, cur1, rfl, _, hh1, _⟩
  · simp [Value.ownBlock] at hg
  rcases h'.2 with ⟨rfl, _⟩ | ⟨g2, cap2, cur2, rfl, _, hh2, _⟩
  · simp [Value.ownBlock] at hg'
  obtain rfl : g1 = g := by simpa [Value.ownBlock] using hg
  obtain rfl : g2 = g1 := by simpa [Value.ownBlock] using hg'
  rw [hh1] at hh2
  injection hh2 with hh2
  injection hh2 with _ ht
  exact hne ht
theorem heap_keep {W W' : World} {row : Option Nat} {b : Nat} {o : Obj} (h : W.heap[b]? = some o) (hg : W.grownBy W' row) (hne : row ≠ some b) : W'.heap[b]? = some o :=
  (hg.block b (Array.getElem?_eq_some_iff.1 h).1 (fun e => hne e.symm)).trans h
theorem own_mono {W : World} {b1 b2 : Nat} {e : TypeId} {size n : Nat} {v : Value} {xs : List Value} (h : W.ownsRow b1 e size v n xs) (hb : b2 ≤ b1) : W.ownsRow b2 e size v n xs := by
  refine ⟨h.1, h.2.imp id ?_⟩
  rintro ⟨g, cap, cur, rfl, h2, h3⟩
  exact ⟨g, cap, cur, rfl, Nat.le_trans hb h2, h3⟩
theorem ownsRow_other {W W' : World} {base : Nat} {e : TypeId} {size n : Nat} {v : Value} {xs : List Value} (h : W.ownsRow base e size v n xs) (hb : ∀ g, base ≤ g → W'.heap[g]? = W.heap[g]?) : W'.ownsRow base e size v n xs := by
  refine ⟨h.1, h.2.imp id ?_⟩
  rintro ⟨g, cap, cur, h1, h2, h3, h4⟩
  exact ⟨g, cap, cur, h1, h2, (hb g h2).trans h3, h4⟩
theorem ownsRow_set {W : World} {base b i : Nat} {e : TypeId} {size n : Nat} {v u : Value} {xs : List Value} (h : W.ownsRow base e size v n xs) (hb : b < base) : (W.setCell ⟨b, i, none⟩ u).ownsRow base e size v n xs := by
  refine ⟨h.1, h.2.imp id ?_⟩
  rintro ⟨g, cap, cur, h1, h2, h3, h4⟩
  exact ⟨g, cap, cur, h1, h2, (Below.heap_setCell W ⟨b, i, none⟩ u g (by show g ≠ b; omega)).trans h3, h4⟩
theorem grown_below {b : Nat} {W w1 : World} {v : Value} {base n size : Nat} {e : TypeId} {xs : List Value} (o : Obj) (hown : W.ownsRow base e size v n xs) (hb : b ≤ base) (hbW : b ≤ W.heap.size) (hgrow : (W.alloc o).drew.grownBy w1 v.ownBlock) : Below b W w1 :=
  (((Below.refl b W).alloc hbW o).drew).grown hgrow (by simp; omega) fun k hk => Nat.le_trans hb (hown.lt k hk).1
/-- A node that is being made, its names so far. -/
structure OutN (b : Nat) (n : NodeL) (l : List EntL) (vf : Value) (W : World) : Prop where
  blk : W.heap[b]? = some (.cells #[.int .i64 n.kind, .int .i64 n.mode, .int .i64 n.owner, .int .i64 n.links, .int .i64 n.opn, .int .i64 n.up, .string (bs n.data), vf] 53 (0, 0))
  own : W.ownsRow (b + 1) 76 2 vf l.length (ents l)
theorem OutN.lt {b : Nat} {n : NodeL} {l : List EntL} {vf : Value} {W : World} (h : OutN b n l vf W) : b < W.heap.size := (Array.getElem?_eq_some_iff.1 h.blk).1
theorem OutN.put {b : Nat} {n : NodeL} {l : List EntL} {vf v' : Value} {W w1 : World} (h : OutN b n l vf W) (f : EntL) (o : Obj) (hgrow : (W.alloc o).drew.grownBy w1 vf.ownBlock)
    (hown1 : w1.ownsRow (b + 1) 76 2 v' (l.length + 1) (ents l ++ [.string (bs f.1), .int .i64 f.2])) : OutN b n (l ++ [f]) v' (w1.setCell ⟨b, 7, none⟩ v') := by
  have hlt := h.lt
  have hne : some b ≠ vf.ownBlock := fun e => by have := (h.own.lt b e.symm).1; omega
  have h1 : w1.heap[b]? = some (.cells #[.int .i64 n.kind, .int .i64 n.mode, .int .i64 n.owner, .int .i64 n.links, .int .i64 n.opn, .int .i64 n.up, .string (bs n.data), vf] 53 (0, 0)) := by
    rw [hgrow.block b (by show b < (W.heap.push o).size; simp; omega) hne]
    exact ((Below.refl W.heap.size W).alloc (Nat.le_refl _) o).block b hlt |>.trans h.blk
  refine ⟨heap_set h1, ownsRow_set ?_ (Nat.lt_succ_self b)⟩
  rw [List.length_append, ents_app]
  exact hown1
set_option maxRecDepth 100000 in
set_option maxHeartbeats 4000000 in
theorem node_any (n : NodeL) (v : Value) (w : World) (hv : RdNm w.heap.size (n, v) w) (hl : n.names.length ≤ 10000) :
    Calls Try.prog 26 #[nval n v] w fun e w' => ∃ v', e = .returned (nval n v') ∧ w'.ownsRow w.heap.size 76 2 v' n.names.length (ents n.names) ∧ Below w.heap.size w w' := by
  obtain ⟨ao, cap, e, _, _⟩ := Rd.form hv
  have e' : v = .slice ao n.names.length cap := e
  subst e'
  obtain ⟨i0, hi, hz0, hz1, hz2⟩ := info_parts infoREnt
  have HV : Hid (Rd w.heap.size 2 (.slice ao n.names.length cap) n.names.length (ents n.names) w) := Lib.hid hv
  clear hv e
  go_enter Try.func26, Try.ntmps26
  go_wp2_with fail
  refine fresh3 (P := fun W => Code.wp _ _ _ _ W) ?_
  intro W0 hb0 hP hR hO hs0
  go_loopw [4] (fun i wr => ∃ (k : Nat) (vf : Value), i = .int .i64 k ∧ k ≤ n.names.length ∧ Hid (OutN (w.heap.size + 2) n (n.names.take k) vf wr) ∧ Below (w.heap.size + 2) W0 wr) (fun i _ => n.names.length - (RowKit.intOf i).toNat)
  case atStart => exact ⟨0, _, rfl, Nat.zero_le _, Lib.hid ⟨hO, World.ownsRow_nil _ _ _ _⟩, Below.refl _ _⟩
  case round =>
    obtain ⟨k, vf, rfl, hk, hON, hBr⟩ := hrel
    have sB := hBr.size
    have hPr := (hBr.block _ (by omega)).trans hP
    have p7 : wr.cell? ⟨w.heap.size, 7, none⟩ = some (.slice ao n.names.length cap) := by rw [Lib.cell_of_heap hPr]; rfl
    have hBw : Below w.heap.size w wr := hb0.trans (hBr.mono (by omega))
    have hbW := hON.out.lt
    have cb1 : wr.cell? ⟨w.heap.size + 2, 7, none⟩ = some vf := by rw [Lib.cell_of_heap hON.out.blk]; rfl
    have ff : wr.frozen? ⟨w.heap.size + 2, 7, none⟩ = false := Lib.frozen_of_heap hON.out.blk 7
    by_cases hlt : k < n.names.length
    · obtain ⟨b, off, cap', e, hn, hm, hb, hlen, hc⟩ := (HV.out.below hBw).at (by omega)
      injection e with e1 _ e2
      subst e1
      subst e2
      have c0 := hc _ _ (ents_at0 n.names k hlt)
      have c1 : wr.cell? ⟨b, off + k * 2 + 1, none⟩ = _ := hc (k * 2 + 1) _ (ents_at1 n.names k hlt)
      have ht : Hid (n.names.take (k + 1) = n.names.take k ++ [n.names[k]]) := Lib.hid (List.take_succ_eq_append_getElem hlt)
      have htl : (n.names.take k).length = k := by rw [List.length_take]; omega
      have hown := hON.out.own
      have ne1 : vf.ownBlock ≠ some (w.heap.size + 2) := fun e => by have := (hown.lt _ e).1; omega
      have fca : ∀ o : Obj, (wr.alloc o).drew.cell? ⟨w.heap.size + 2, 7, none⟩ = some vf := fun o => ((Below.refl wr.heap.size wr).alloc (Nat.le_refl _) o).cell (p := ⟨w.heap.size + 2, 7, none⟩) hbW |>.trans cb1
      have ffa : ∀ o : Obj, (wr.alloc o).drew.frozen? ⟨w.heap.size + 2, 7, none⟩ = false := fun o => ((Below.refl wr.heap.size wr).alloc (Nat.le_refl _) o).frozen (p := ⟨w.heap.size + 2, 7, none⟩) hbW |>.trans ff
      generalize n.names[k] = f at *
      obtain ⟨fx, fz⟩ := f
      have hlt' : k + 1 ≤ n.names.length := hlt
      have sB' : w.heap.size + 2 ≤ w.heap.size + 2 := Nat.le_refl _
      clear hc hP hR hO hPr hlen hn hm
      go_wp2_with fail
      go_region_law
        ((refine step_append_lies _ (by rfl) _ _ _ (by rfl) (w.heap.size + 2 + 1) 76 i0 _ 2 24 Try.underlying51 hi hz0 hz1 hz2 rfl (by omega) vf (n.names.take k).length (ents (n.names.take k)) (by rfl) ((hown.alloc _).drew)
            ⟨wr.heap.size, 0, none⟩ 1 1 [.string (bs fx), .int .i64 fz] (by rfl) (by rfl) (World.news_of_block (cs := #[.string (bs fx), .int .i64 fz]) (t := 76) (fr := (0, 0)) (heap_alloc_new wr _)) (by simp [Value.oneCell'])
            (by omega) (by unfold maxLen; omega) (by omega) (by simp; omega) (wr.heap.size + 1) (by simp) ?_; intro gg cap w1 hown1 hgrow hat hlt; have ff1 : w1.frozen? ⟨w.heap.size + 2, 7, none⟩ = false := (hgrow.frozen_far ⟨w.heap.size + 2, 7, none⟩ (by simp; omega) (Ne.symm ne1)).trans (ffa _); have fc1 : w1.cell? ⟨w.heap.size + 2, 7, none⟩ = some vf := (hgrow.cell_far ⟨w.heap.size + 2, 7, none⟩ (by simp; omega) (Ne.symm ne1)).trans (fca _)))
      all_goals
        have hON' := Lib.hid (hON.out.put (fx, fz) _ hgrow (by rw [htl] at hown1 ⊢; exact hown1))
        have hB4 : Below (w.heap.size + 2) W0 w1 := hBr.trans ((grown_below _ hown (Nat.le_succ _) (Nat.le_of_lt hbW) hgrow).mono sB')
        rw [← ht.out] at hON'
        clear ff1 fc1 hgrow hat hown1 fca ffa
        go_wp2_with fail
        go_roundw
        case rel => exact ⟨k + 1, _, by go_num, hlt', hON', hB4.setCell (p := ⟨w.heap.size + 2, 7, none⟩) (Nat.le_refl _) _⟩
        case measure => simp [RowKit.intOf]; omega
    · have hke : k = n.names.length := by omega
      have HT : Hid (n.names.take k = n.names) := Lib.hid (by rw [hke, List.take_length])
      have hI2 : decide (k < n.names.length) = false := by simp; omega
      have hRr := (hBr.block _ (by omega)).trans hR
      rw [HT.out] at hON
      obtain ⟨r0, r1, r2, r3, r4, r5, r6, r7⟩ := cells8 hRr
      have rf := fun j => Lib.frozen_of_heap hRr j
      obtain ⟨o0, o1, o2, o3, o4, o5, o6, o7⟩ := cells8 hON.out.blk
      have hown := hON.out.own
      obtain ⟨aov, capv, rfl⟩ := own_form hown
      clear hke hlt
      go_wp2_with fail
      refine sets8 (P := fun W => bodyPost _ _ _ _ _ W) hRr ?_
      intro W3 hb3 hg3 hs3 hR3
      obtain ⟨q0, q1, q2, q3, q4, q5, q6, q7⟩ := cells8 hR3
      have hown3 : W3.ownsRow (w.heap.size + 2 + 1) 76 2 (.slice aov n.names.length capv) n.names.length (ents n.names) := ownsRow_other hown fun g hg => hg3 g (by omega)
      have hB3 : Below w.heap.size w W3 := hBw.trans (hb3.mono (by omega))
      clear r0 r1 r2 r3 r4 r5 r6 r7 o0 o1 o2 o3 o4 o5 o6 o7 rf
      (try simp only [Exit.inBlock, Exit.then])
      refine bodyPost_ret (results_cell_row (p := 2) (ty := 53) rfl _ W3 (w.heap.size + 1) _ _ _ _ rfl hR3 Try.underlying53 rfl (by kernel_rfl)) rfl ?_
      exact ⟨_, rfl, own_mono hown3 (by omega), hB3⟩
theorem infoRNode : (Try.prog.info? 53).map (fun i => (i.zero, i.size, i.bytes)) = some (some (.agg #[.int .i64 0, .int .i64 0, .int .i64 0, .int .i64 0, .int .i64 0, .int .i64 0, .string ⟨#[]⟩, .slice none 0 0]), 8, 88) := by kernel_rfl
/-- A disk that is being made, its nodes so far. -/
structure OutD (b : Nat) (most room : Int) (ms : List NodeM) (vo : Value) (W : World) : Prop where
  blk : W.heap[b]? = some (.cells #[vo, .int .i64 most, .int .i64 room] 33 (0, 0))
  own : W.ownsRow (b + 1) 53 8 vo ms.length (cellsN ms)
  nms : ∀ m ∈ ms, W.ownsRow (b + 1) 76 2 m.2 m.1.names.length (ents m.1.names)
theorem OutD.lt {b : Nat} {most room : Int} {ms : List NodeM} {vo : Value} {W : World} (h : OutD b most room ms vo W) : b < W.heap.size := (Array.getElem?_eq_some_iff.1 h.blk).1
theorem OutD.c0 {b : Nat} {most room : Int} {ms : List NodeM} {vo : Value} {W : World} (h : OutD b most room ms vo W) : W.cell? ⟨b, 0, none⟩ = some vo := (cells3 h.blk).1
theorem OutD.ca {b : Nat} {most room : Int} {ms : List NodeM} {vo : Value} {W : World} (h : OutD b most room ms vo W) (o : Obj) : (W.alloc o).cell? ⟨b, 0, none⟩ = some vo :=
  ((Below.refl W.heap.size W).alloc (Nat.le_refl _) o).cell (p := ⟨b, 0, none⟩) h.lt |>.trans h.c0
theorem OutD.fa {b : Nat} {most room : Int} {ms : List NodeM} {vo : Value} {W : World} (h : OutD b most room ms vo W) (o : Obj) : (W.alloc o).frozen? ⟨b, 0, none⟩ = false :=
  ((Below.refl W.heap.size W).alloc (Nat.le_refl _) o).frozen (p := ⟨b, 0, none⟩) h.lt |>.trans (Lib.frozen_of_heap h.blk 0)
theorem drew_below {B : Nat} {W W' : World} (h : Below W.drew.heap.size W.drew W') (hB : B ≤ W.heap.size) : Below B W W' := ((Below.refl B W).drew).trans (h.mono hB)
theorem OutD.below {b : Nat} {most room : Int} {ms : List NodeM} {vo : Value} {W W' : World} (h : OutD b most room ms vo W) (hb : Below W.heap.size W W') : OutD b most room ms vo W' :=
  ⟨(hb.block b h.lt).trans h.blk, ownsRow_below h.own hb (Nat.le_refl _), fun m hm => ownsRow_below (h.nms m hm) hb (Nat.le_refl _)⟩
theorem OutD.put {b : Nat} {most room : Int} {ms : List NodeM} {vo v' : Value} {W w1 : World} (h : OutD b most room ms vo W) (m : NodeM) (hm : W.ownsRow (b + 1) 76 2 m.2 m.1.names.length (ents m.1.names)) (o : Obj) (hgrow : (W.alloc o).grownBy w1 vo.ownBlock)
    (hown1 : w1.ownsRow (b + 1) 53 8 v' (ms.length + 1) (cellsN ms ++ ncells m)) : OutD b most room (ms ++ [m]) v' (w1.setCell ⟨b, 0, none⟩ v') := by
  have hlt := h.lt
  have hne : vo.ownBlock ≠ some b := fun e => by have := (h.own.lt b e).1; omega
  have hba := (Below.refl W.heap.size W).alloc (Nat.le_refl _) o
  have h1 := heap_keep ((hba.block b hlt).trans h.blk) hgrow hne
  have hnm : ∀ x : NodeM, W.ownsRow (b + 1) 76 2 x.2 x.1.names.length (ents x.1.names) → (w1.setCell ⟨b, 0, none⟩ v').ownsRow (b + 1) 76 2 x.2 x.1.names.length (ents x.1.names) := fun x hx =>
    ownsRow_set (ownsRow_grown (ownsRow_below hx hba (Nat.le_refl _)) hgrow fun g hg hr => own_ne hx h.own (by decide) g hg hr) (Nat.lt_succ_self b)
  refine ⟨heap_set h1, ownsRow_set ?_ (Nat.lt_succ_self b), fun x hx => ?_⟩
  · rw [List.length_append, cellsN_app]
    have e : cellsN [m] = ncells m := by simp [cellsN]
    rw [e]
    exact hown1
  · rcases List.mem_append.1 hx with hx | hx
    · exact hnm x (h.nms x hx)
    · obtain rfl := List.mem_singleton.1 hx
      exact hnm x hm
theorem OutD.gives {b : Nat} {most room : Int} {ms : List NodeM} {vo : Value} {W : World} (h : OutD b most room ms vo W) : RdM W.heap.size vo ms W :=
  ⟨Rd.own h.own (Nat.le_refl _), fun m hm => Rd.own (h.nms m hm) (Nat.le_refl _)⟩
set_option maxRecDepth 100000 in
set_option maxHeartbeats 4000000 in
theorem its_any (v : Value) (ms : List NodeM) (most room : Int) (w : World) (hv : RdM w.heap.size v ms w) (hl : ms.length ≤ 10000) (hnl : ∀ n ∈ pl ms, n.names.length ≤ 10000) :
    Calls Try.prog 13 #[.agg #[v, .int .i64 most, .int .i64 room]] w fun e w' => ∃ v', e = .returned (.agg #[v', .int .i64 most, .int .i64 room]) ∧ GivesN (pl ms) v' w' ∧ Below w.heap.size w w' := by
  obtain ⟨ao, cap, rfl, _, _⟩ := rdm_form hv
  obtain ⟨i0, hi, hz0, hz1, hz2⟩ := info_parts infoRNode
  have HV := Lib.hid hv
  have HNL := Lib.hid hnl
  clear hv hnl
  go_enter Try.func13, Try.ntmps13
  go_wp2_with fail
  refine fresh3 (P := fun W => Code.wp _ _ _ _ W) ?_
  intro W0 hb0 hP hR hO hs0
  go_loopw [4] (fun i wr => ∃ (k : Nat) (vo : Value) (mo : List NodeM), i = .int .i64 k ∧ k ≤ ms.length ∧ Hid (pl mo = (pl ms).take k) ∧ Hid (OutD (w.heap.size + 2) most room mo vo wr) ∧ Below (w.heap.size + 2) W0 wr) (fun i _ => ms.length - (RowKit.intOf i).toNat)
  case atStart => exact ⟨0, _, [], rfl, Nat.zero_le _, Lib.hid rfl, Lib.hid ⟨hO, World.ownsRow_nil _ _ _ _, fun m hm => by cases hm⟩, Below.refl _ _⟩
  case round =>
    obtain ⟨k, vo, mo, rfl, hk, hmo, hOD, hBr⟩ := hrel
    have sB := hBr.size
    have hPr := (hBr.block _ (by omega)).trans hP
    obtain ⟨p0, p1, p2⟩ := cells3 hPr
    have hBw : Below w.heap.size w wr := hb0.trans (hBr.mono (by omega))
    have hbW := hOD.out.lt
    have hml : mo.length = k := by rw [← pl_len, hmo.out, List.length_take, pl_len]; omega
    by_cases hlt : k < ms.length
    · obtain ⟨b, off, n, aon, capn, rfl, hb, hn, hmk, hrn, c0, c1, c2, c3, c4, c5, c6, c7⟩ := node_at (HV.out.below hBw) k hlt
      have hnn : n.names.length ≤ 10000 := HNL.out n (by rw [← hn]; exact List.getElem_mem _)
      have ht : Hid ((pl ms).take (k + 1) = pl mo ++ [n]) := Lib.hid (by rw [hmo.out, ← hn]; exact List.take_succ_eq_append_getElem (by rw [pl_len]; exact hlt))
      have ne1 : vo.ownBlock ≠ some (w.heap.size + 2) := fun e => by have := (hOD.out.own.lt _ e).1; omega
      have HNR : Hid (RdNm wr.heap.size (n, .slice aon n.names.length capn) wr.drew) := Lib.hid (Rd.mono (show Rd w.heap.size 2 _ _ _ wr.drew from hrn) hBw.size)
      have cb1 : wr.cell? ⟨w.heap.size + 2, 0, none⟩ = some vo := by rw [Lib.cell_of_heap hOD.out.blk]; rfl
      have hod : OutD (w.heap.size + 2) most room mo vo wr.drew := hOD.out.below ((Below.refl _ _).drew)
      have HODD := Lib.hid hod
      clear hP hR hO hPr hn hmk hrn hod
      go_wp2_with fail
      go_region_law
        (first
          | (go_simp; go_at_call 26; with_reducible refine (node_any n (.slice aon n.names.length capn) _ HNR.out hnn).mono ?_; rintro e w1 ⟨vn, rfl, hownN, hbN⟩; have hD1 := HODD.out.below hbN; have hlt1 := hD1.lt; have hownD := hD1.own; have oneN : ∀ u ∈ ncells (n, vn), u.oneCell' = true := ncells_one hownN; have hownN' := own_mono hownN hbW; have belowN := drew_below hbN (Nat.le_of_lt hbW); have hbD : w.heap.size + 2 + 1 ≤ (w1.alloc (.cells #[.int .i64 n.kind, .int .i64 n.mode, .int .i64 n.owner, .int .i64 n.links, .int .i64 n.opn, .int .i64 n.up, .string (bs n.data), vn] 53)).heap.size := (by have := hD1.lt; simp; omega); have fc1 : w1.cell? ⟨w.heap.size + 2, 0, none⟩ = some vo := hD1.c0; have fcD := hD1.ca; have ffD := hD1.fa)
          | (refine step_append_lies _ (by rfl) _ _ _ (by rfl) (w.heap.size + 2 + 1) 53 i0 _ 8 88 Try.underlying31 hi hz0 hz1 hz2 rfl (by omega) vo mo.length (cellsN mo) (by rfl) (hownD.alloc _)
              ⟨w1.heap.size, 0, none⟩ 1 1 (ncells (n, vn)) (by rfl) (by rfl) (World.news_of_block (cs := #[.int .i64 n.kind, .int .i64 n.mode, .int .i64 n.owner, .int .i64 n.links, .int .i64 n.opn, .int .i64 n.up, .string (bs n.data), vn]) (t := 53) (fr := (0, 0)) (heap_alloc_new w1 _)) oneN
              (by omega) (by unfold maxLen; omega) (by omega) hbD (w1.heap.size + 1) (by simp) ?_; intro gg cap w2 hown2 hgrow hat hlt2; have ff2 : w2.frozen? ⟨w.heap.size + 2, 0, none⟩ = false := (hgrow.frozen_far ⟨w.heap.size + 2, 0, none⟩ (by simp; omega) (Ne.symm ne1)).trans (ffD _); have fc2 : w2.cell? ⟨w.heap.size + 2, 0, none⟩ = some vo := (hgrow.cell_far ⟨w.heap.size + 2, 0, none⟩ (by simp; omega) (Ne.symm ne1)).trans (fcD _)))
      all_goals
        have hON' := Lib.hid (hD1.put (n, vn) hownN' _ hgrow hown2)
        have hB4 : Below (w.heap.size + 2) W0 w2 := hBr.trans (belowN.trans (((Below.refl (w.heap.size + 2) w1).alloc (Nat.le_of_lt hlt1) _).grown hgrow (by simp; omega) (fun g hg => Nat.le_trans (Nat.le_succ _) (hownD.lt g hg).1)))
        clear ff2 fc2 hgrow hat hown2 fc1 fcD ffD
        go_wp2_with fail
        go_roundw
        case rel => exact ⟨k + 1, _, mo ++ [(n, vn)], by go_num, hlt, Lib.hid (by rw [ht.out]; simp [pl]), hml ▸ hON', hB4.setCell (p := ⟨w.heap.size + 2, 0, none⟩) (Nat.le_refl _) _⟩
        case measure => simp [RowKit.intOf]; omega
    · have hke : k = ms.length := by omega
      have HT : Hid (pl mo = pl ms) := Lib.hid (by rw [hmo.out, hke, ← pl_len, List.take_length])
      have hI2 : decide (k < ms.length) = false := by simp; omega
      have hRr := (hBr.block _ (by omega)).trans hR
      obtain ⟨r0, r1, r2⟩ := cells3 hRr
      have rf := fun j => Lib.frozen_of_heap hRr j
      obtain ⟨o0, o1, o2⟩ := cells3 hOD.out.blk
      obtain ⟨aov, capv, rfl⟩ := own_form hOD.out.own
      clear hke hlt
      go_wp2_with fail
      refine sets3 (P := fun W => bodyPost _ _ _ _ _ W) hRr ?_
      intro W3 hb3 hg3 hs3 hR3
      have hown3 : RdM W3.heap.size (.slice aov mo.length capv) mo W3 := ⟨Rd.own (ownsRow_other hOD.out.own fun g hg => hg3 g (by omega)) (Nat.le_refl _), fun m hm => Rd.own (ownsRow_other (hOD.out.nms m hm) fun g hg => hg3 g (by omega)) (Nat.le_refl _)⟩
      have hB3 : Below w.heap.size w W3 := hBw.trans (hb3.mono (by omega))
      rw [hml] at hown3
      clear r0 r1 r2 o0 o1 o2 rf
      (try simp only [Exit.inBlock, Exit.then])
      refine bodyPost_ret (results_cell_row (p := 2) (ty := 33) rfl _ W3 (w.heap.size + 1) _ _ _ _ rfl hR3 Try.underlying33 rfl (by kernel_rfl)) rfl ?_
      exact ⟨_, rfl, ⟨mo, HT.out, hown3⟩, hB3⟩
end Go.Proofs.Ythpcldmhamjnbaa
