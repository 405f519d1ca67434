/-
  The statements' work: a job turned into the document's.
-/
import Derived.Test.YtedcffkmfopalaaDoorJobD
import Derived.Deep.RegionLaw
namespace Go.Proofs.YtedcffkmfopalaaDoor
open Go.RowKit Go.Shelf Go.Lib
attribute [local go_sem ↓] Go.wp_at_zero Go.wp_at_succ

theorem info_parts {P : Program} {t : TypeId} {z : Value} {s b : Nat} (h : (P.info? t).map (fun i => (i.zero, i.size, i.bytes)) = some (some z, s, b)) : ∃ i, P.info? t = some i ∧ i.zero = some z ∧ i.size = s ∧ i.bytes = b := by
  obtain ⟨i, h1, h2⟩ := Option.map_eq_some_iff.1 h
  injection h2 with h2 h3
  injection h3 with h3 h4
  exact ⟨i, h1, h2, h3, h4⟩
theorem infoRFr : (Tryd.prog.info? 58).map (fun i => (i.zero, i.size, i.bytes)) = some (some (.agg #[.int .i64 0, .string ⟨#[]⟩, .slice none 0 0]), 3, 48) := by kernel_rfl
/-- A job that is being made, its frames so far. -/
structure OutJ (b : Nat) (a : JobL) (vn vd : Value) (ms : List FrameM) (vo : Value) (W : World) : Prop where
  blk : W.heap[b]? = some (.cells #[.int .i64 a.kind, .int .i64 a.p, .int .i64 a.phase, .int .i64 a.fd, .int .i64 a.n, .int .i64 a.mode, .int .i64 a.tries, .int .i64 a.pos, .int .i64 a.flags, .string (bs a.path), .string (bs a.path2), .string (bs a.text), vn, vo, vd, .bool a.done, .int .i64 a.exit, .string (bs a.out), .int .i64 a.e] 35 (0, 0))
  own : W.ownsRow (b + 1) 58 3 vo ms.length (cellsF ms)
theorem OutJ.lt {b : Nat} {a : JobL} {vn vd : Value} {ms : List FrameM} {vo : Value} {W : World} (h : OutJ b a vn vd ms vo W) : b < W.heap.size := (Array.getElem?_eq_some_iff.1 h.blk).1
theorem OutJ.put {b : Nat} {a : JobL} {vn vd : Value} {ms : List FrameM} {vo v' : Value} {W w1 : World} (h : OutJ b a vn vd ms vo W) (m : FrameM) (o : Obj) (hgrow : (W.alloc o).drew.grownBy w1 vo.ownBlock)
    (hown1 : w1.ownsRow (b + 1) 58 3 v' (ms.length + 1) (cellsF ms ++ fcells m)) : OutJ b a vn vd (ms ++ [m]) v' (w1.setCell ⟨b, 13, none⟩ v') := by
  have hlt := h.lt
  have hne : some b ≠ vo.ownBlock := fun e => by have := (h.own.lt b e.symm).1; omega
  have h1 : w1.heap[b]? = some (.cells #[.int .i64 a.kind, .int .i64 a.p, .int .i64 a.phase, .int .i64 a.fd, .int .i64 a.n, .int .i64 a.mode, .int .i64 a.tries, .int .i64 a.pos, .int .i64 a.flags, .string (bs a.path), .string (bs a.path2), .string (bs a.text), vn, vo, vd, .bool a.done, .int .i64 a.exit, .string (bs a.out), .int .i64 a.e] 35 (0, 0)) := by
    rw [hgrow.block b (by show b < (W.heap.push o).size; simp; omega) hne]
    exact ((Below.refl W.heap.size W).alloc (Nat.le_refl _) o).block b hlt |>.trans h.blk
  refine ⟨heap_set h1, ownsRow_set ?_ (Nat.lt_succ_self b)⟩
  rw [List.length_append, cellsF_app]
  have e : cellsF [m] = fcells m := by simp [cellsF]
  rw [e]
  exact hown1
set_option maxRecDepth 100000 in
set_option maxHeartbeats 4000000 in
theorem work_c (a : JobL) (sa : LightJ a) (vn vs vd : Value) (w : World) (ha : GivesJ a vn vs vd w) :
    Calls Tryd.prog 11 #[jval a vn vs vd] w fun e w' => ∃ vo, e = .returned (jval a vn vo vd) ∧ GivesJ a vn vo vd w' ∧ Below w.heap.size w w' := by
  obtain ⟨an, cn, rfl, _, _⟩ := Rd.form ha.nm
  obtain ⟨ad, cd, rfl, _, _⟩ := Rd.form ha.dr
  obtain ⟨ms, hms, hrd, hrn⟩ := ha.st
  obtain ⟨ax, cs, rfl, _, _⟩ := Rd.form hrd
  have hml : ms.length ≤ 30 := by have := sa.st; rw [← hms, pf_len] at this; exact this
  obtain ⟨i0, hi, hz0, hz1, hz2⟩ := info_parts infoRFr
  have HN := Lib.hid ha.nm
  have HD := Lib.hid ha.dr
  have HR := Lib.hid hrd
  have HF := Lib.hid hrn
  have HMS := Lib.hid hms
  clear ha hrd hrn hms sa
  go_enter Tryd.func11, Tryd.ntmps11
  go_upto_region 1 with (fail)
  refine code_fresh2 ?_
  intro W1 hb1 hP hR hs1
  obtain ⟨c0, c1, c2, c3, c4, c5, c6, c7, c8, c9, c10, c11, c12, c13, c14, c15, c16, c17, c18⟩ := cells19 hP
  go_upto_region 2 with (first
    | (refine wpList_fresh1 ?_; intro V1 hb2 hA2 hs2; rw [hs1] at hA2)
    | (refine wpList_store_row rfl 35 _ _ rfl _ rfl rfl hA2 rfl (by kernel_rfl) rfl ?_; intro W0 hb3 hg3 hs3 hO))
  (try simp only [List.getElem_toArray]); (try simp only [List.getElem_cons_succ]); (try simp only [List.getElem_cons_zero]); (try simp only [Act.put]); (try simp only [List.setIfInBounds_toArray]); (try simp only [List.set_cons_succ]); (try simp only [List.set_cons_zero])
  have hb0 : Below W1.heap.size W1 W0 := by rw [hs1] at hb2 ⊢; exact hb2.trans hb3
  have hs0 : W0.heap.size = W1.heap.size + 1 := by rw [hs3, hs2]
  clear hb2 hb3 hg3 hs2 hs3 hA2
  clear c0 c1 c2 c3 c4 c5 c6 c7 c8 c9 c10 c11 c12 c13 c14 c15 c16 c17 c18
  replace hP := (hb0.block _ (by omega)).trans hP
  replace hR := (hb0.block _ (by omega)).trans hR
  have hBW := ret_tr hb1 hb0
  have hsz : W0.heap.size = w.heap.size + 3 := by omega
  clear hb1 hb0 hs0 hs1
  go_wp2_with fail
  go_loopw [4] (fun i wr => ∃ (k : Nat) (vo : Value), i = .int .i64 k ∧ k ≤ ms.length ∧ Hid (OutJ (w.heap.size + 2) a (.slice an a.names.length cn) (.slice ad a.draws.length cd) (ms.take k) vo wr) ∧ Below (w.heap.size + 2) W0 wr) (fun i _ => ms.length - (RowKit.intOf i).toNat)
  case atStart => exact ⟨0, _, rfl, Nat.zero_le _, Lib.hid ⟨hO, World.ownsRow_nil _ _ _ _⟩, Below.refl _ _⟩
  case round =>
    obtain ⟨k, vo, rfl, hk, hON, hBr⟩ := hrel
    have sB := hBr.size
    have hPr := (hBr.block _ (by omega)).trans hP
    have p13 : wr.cell? ⟨w.heap.size, 13, none⟩ = some (.slice ax ms.length cs) := by rw [Lib.cell_of_heap hPr]; rfl
    have hBw : Below w.heap.size w wr := hBW.trans (hBr.mono (by omega))
    have hbW := hON.out.lt
    have cb1 : wr.cell? ⟨w.heap.size + 2, 13, none⟩ = some vo := by rw [Lib.cell_of_heap hON.out.blk]; rfl
    have ff : wr.frozen? ⟨w.heap.size + 2, 13, none⟩ = false := Lib.frozen_of_heap hON.out.blk 13
    by_cases hlt : k < ms.length
    · as_aux_lemma =>
      obtain ⟨b, off, cap2, e, hn, hm, hb, hlen, hc⟩ := ((Rd.below HR.out hBw)).at (by omega)
      injection e with e1 _ e2
      subst e1
      subst e2
      have iL : decide (k < ms.length) = true := decide_eq_true hlt
      have iL2 : decide ((k : Int) < (ms.length : Int)) = true := decide_eq_true (by omega)
      have k0 : (0 : Int) ≤ (k : Int) := by omega
      have k1 : (k : Int) < (ms.length : Int) := by omega
      have w1w : IntKind.i64.wrap ((k : Int) + 1) = (k : Int) + 1 := Go.IntWalk.i64_in _ (by omega)
      have c0 := hc _ _ (cellsF_at ms k 0 hlt (by decide))
      have c1 : wr.cell? ⟨b, off + k * 3 + 1, none⟩ = _ := hc (k * 3 + 1) _ (cellsF_at ms k 1 hlt (by decide))
      have c2 : wr.cell? ⟨b, off + k * 3 + 2, none⟩ = _ := hc (k * 3 + 2) _ (cellsF_at ms k 2 hlt (by decide))
      have ht : Hid (ms.take (k + 1) = ms.take k ++ [ms[k]]) := Lib.hid (List.take_succ_eq_append_getElem hlt)
      have htl : (ms.take k).length = k := by rw [List.length_take]; omega
      have hown := hON.out.own
      have ne1 : vo.ownBlock ≠ some (w.heap.size + 2) := fun e => by have := (hown.lt _ e).1; omega
      have fca : ∀ o : Obj, (wr.alloc o).drew.cell? ⟨w.heap.size + 2, 13, none⟩ = some vo := fun o => ((Below.refl wr.heap.size wr).alloc (Nat.le_refl _) o).cell (p := ⟨w.heap.size + 2, 13, none⟩) hbW |>.trans cb1
      have ffa : ∀ o : Obj, (wr.alloc o).drew.frozen? ⟨w.heap.size + 2, 13, none⟩ = false := fun o => ((Below.refl wr.heap.size wr).alloc (Nat.le_refl _) o).frozen (p := ⟨w.heap.size + 2, 13, none⟩) hbW |>.trans ff
      have hone : (ms[k]).2.oneCell' = true := by obtain ⟨x1, x2, x3, _, _⟩ := Rd.form (HF.out _ (List.getElem_mem hlt)); rw [x3]; rfl
      generalize ms[k] = m at *
      obtain ⟨⟨fx, fz, fn⟩, fv⟩ := m
      replace c0 : wr.cell? ⟨b, off + k * 3, none⟩ = some (.int .i64 fx) := c0
      replace c1 : wr.cell? ⟨b, off + k * 3 + 1, none⟩ = some (.string (bs fz)) := c1
      replace c2 : wr.cell? ⟨b, off + k * 3 + 2, none⟩ = some fv := c2
      replace hone : fv.oneCell' = true := hone
      have hlt2 : k + 1 ≤ ms.length := hlt
      have sB2 : w.heap.size + 2 ≤ w.heap.size + 2 := Nat.le_refl _
      clear hc hP hR hO hPr hlen hn hm
      go_wp2_with fail
      go_region_law
        ((refine step_append_lies _ (by rfl) _ _ _ (by rfl) (w.heap.size + 2 + 1) 58 i0 _ 3 48 Tryd.underlying33 hi hz0 hz1 hz2 rfl (by omega) vo (ms.take k).length (cellsF (ms.take k)) (by rfl) ((hown.alloc _).drew)
            ⟨wr.heap.size, 0, none⟩ 1 1 [.int .i64 fx, .string (bs fz), fv] (by rfl) (by rfl) (World.news_of_block (cs := #[.int .i64 fx, .string (bs fz), fv]) (t := 58) (fr := (0, 0)) (heap_alloc_new wr _)) (by intro u hu; simp only [List.mem_cons, List.not_mem_nil, or_false] at hu; rcases hu with rfl | rfl | rfl; all_goals (first | rfl | exact hone))
            (by omega) (by unfold maxLen; omega) (by omega) (by simp; omega) (wr.heap.size + 1) (by simp) ?_; intro gg cap w1 hown1 hgrow hat hlt; have ff1 : w1.frozen? ⟨w.heap.size + 2, 13, none⟩ = false := (hgrow.frozen_far ⟨w.heap.size + 2, 13, none⟩ (by simp; omega) (Ne.symm ne1)).trans (ffa _); have fc1 : w1.cell? ⟨w.heap.size + 2, 13, none⟩ = some vo := (hgrow.cell_far ⟨w.heap.size + 2, 13, none⟩ (by simp; omega) (Ne.symm ne1)).trans (fca _)))
      all_goals
        as_aux_lemma =>
        have hON2 := Lib.hid (hON.out.put (⟨fx, fz, fn⟩, fv) _ hgrow (by rw [htl] at hown1 ⊢; exact hown1))
        have hB4 : Below (w.heap.size + 2) W0 w1 := hBr.trans ((grown_below _ hown (Nat.le_succ _) (Nat.le_of_lt hbW) hgrow).mono sB2)
        rw [← ht.out] at hON2
        clear ff1 fc1 hgrow hat hown1 fca ffa
        go_wp2_with fail
        go_roundw
        case rel => exact ⟨k + 1, _, by go_num, hlt2, hON2, hB4.setCell (p := ⟨w.heap.size + 2, 13, none⟩) (Nat.le_refl _) _⟩
        case measure => simp [RowKit.intOf]; omega
    · as_aux_lemma =>
      have iL : decide (k < ms.length) = false := decide_eq_false hlt
      have iL2 : decide ((k : Int) < (ms.length : Int)) = false := decide_eq_false (by omega)
      have HT : Hid (ms.take k = ms) := Lib.hid (by rw [show k = ms.length by omega, List.take_length])
      have hRr := (hBr.block _ (by omega)).trans hR
      rw [HT.out] at hON
      have hOb := hON.out.blk
      have hown := hON.out.own
      obtain ⟨aov, capv, rfl⟩ := own_form hown
      clear hlt cb1 ff
      go_wp2_with (first | (refine wpList_load_row rfl 35 _ rfl _ rfl 35 _ (0, 0) _ hOb Tryd.underlying35 rfl (by kernel_rfl) ?_) | (refine wpList_store_row rfl 35 _ _ rfl _ rfl rfl hRr rfl (by kernel_rfl) rfl ?_; intro W3 hb3 hg3 hs3 hR3))
      have hown3 : W3.ownsRow (w.heap.size + 2 + 1) 58 3 (.slice aov ms.length capv) ms.length (cellsF ms) := ownsRow_other hown fun g hg => hg3 g (by omega)
      have hB3 : Below w.heap.size w W3 := hBw.trans (hb3.mono (by omega))
      (try simp only [Exit.inBlock, Exit.then])
      refine bodyPost_ret (results_cell_row (p := 2) (ty := 35) rfl _ W3 (w.heap.size + 1) _ _ _ _ rfl hR3 Tryd.underlying35 rfl (by kernel_rfl)) rfl ?_
      exact ⟨_, rfl, ⟨rd_keep HN.out hB3, ⟨ms, HMS.out, Rd.own hown3 (by omega), fun m hm => rd_keep (HF.out m hm) hB3⟩, rd_keep HD.out hB3⟩, hB3⟩
end Go.Proofs.YtedcffkmfopalaaDoor
