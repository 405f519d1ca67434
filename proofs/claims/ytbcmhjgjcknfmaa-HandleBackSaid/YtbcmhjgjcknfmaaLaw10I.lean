/-
  A table that has a place of a description at least: padded.
-/
import Derived.Test.YtbcmhjgjcknfmaaLaw10B
namespace Go.Proofs.Ytbcmhjgjcknfmaa
open Go.RowKit Go.Shelf
attribute [local go_sem ↓] Go.wp_at_zero Go.wp_at_succ

def padT (t : TabL) (n : Nat) : TabL := ⟨if n = t.ds.length then t.ds ++ [zeroD] else t.ds, t.fs⟩
theorem TabX.padD {t t' : TabL} {vd vd' vf : Value} {X : Nat → Prop} {W : World} (h : TabX t vd vf X W) (hf : t'.fs = t.fs) (hd : RdX 6 vd' t'.ds.length (cellsD t'.ds) X W) : TabX t' vd' vf X W := by
  obtain ⟨rows, e, _, h2, h3⟩ := h
  exact ⟨rows, e.trans hf.symm, hd, h2, h3⟩
set_option maxRecDepth 100000 in
set_option maxHeartbeats 4000000 in
theorem padded_c (X : Nat → Prop) (t : TabL) (n : Nat) (ad af : Option Addr) (cap capf : Nat) (w : World) (hX : Old X w) (hT : TabX t (.slice ad t.ds.length cap) (.slice af t.fs.length capf) X w) (hz : SizeT t) :
    Calls Try.prog 32 #[tabV ad t.ds.length cap af t.fs.length capf, .int .i64 n] w fun e w' => ∃ ad2 cap2, e = .returned (tabV ad2 (padT t n).ds.length cap2 af (padT t n).fs.length capf) ∧ TabX (padT t n) (.slice ad2 (padT t n).ds.length cap2) (.slice af (padT t n).fs.length capf) X w' ∧ Below w.heap.size w w' := by
  have S0 := Lib.hid (Sf.start (G := [TabX t (.slice ad t.ds.length cap) (.slice af t.fs.length capf)]) hX (th1 (TabX.firm _ _ _) hT))
  have HRET : Hid (∀ (W : World) (cs : Array Value) (fr), W.heap[w.heap.size + 1]? = some (.cells cs 32 fr) → cs.size = 2 → ∀ tmps : Array Value, tmps.getD 4 undef = .pointer (some ⟨w.heap.size + 1, 0, none⟩) → (results Try.f32 tmps).run Try.prog W = .ok (.agg cs) W) := Lib.hid fun W cs fr h hs tmps ht =>
  results_cell_row (p := 4)  (ty := 32) rfl tmps W (w.heap.size + 1) _ cs fr _ ht h Try.underlying32 rfl (by rw [hs]; kernel_rfl)
  obtain ⟨iD, hD, hDz, hDs, hDb⟩ := info_parts infoDescR
  have HOLD := Lib.hid hX
  have HZ := Lib.hid hz
  clear hX hT hz
  go_enter Try.func32, Try.ntmps32
  go_upto_region 1 with (fail)
  refine code_fresh2 ?_
  intro W1 hb hA0 hA1 hs
  have S1 := Lib.hid (S0.out.new2 hb hA0 hA1)
  clear hb hA0 hA1 hs
  have h_d := (S1.out.at 0 rfl)
  go_wp2_with (first | (refine wpList_load_row rfl 25 _ rfl _ rfl 25 _ (0, 0) _ h_d Try.underlying25 rfl (by kernel_rfl) ?_) | (refine wpList_load_rowG rfl 25 _ rfl _ rfl 25 _ (0, 0) _ h_d Try.underlying25 rfl (by kernel_rfl) ?_))
  refine (its_c _ t _ _ _ _ W1 S1.out.oldX (S1.out.g 0 rfl) HZ.out).mono ?_
  rintro e W2 ⟨adi, capi, rfl, hT, hb⟩
  clear h_d
  have S2 := Lib.hid ((S1.out.call hb).more (TabX.firm _ _ _) hT)
  clear hb hT
  go_upto_region 2 with (fail)
  refine code_fresh1 ?_
  intro W3 hb hA0 hs
  have S3 := Lib.hid (S2.out.new1 hb hA0)
  clear hb hA0 hs
  obtain ⟨u0, u1⟩ := cells2 (S3.out.at 2 rfl)
  by_cases hn : n = t.ds.length
  · have n1 : ((n : Int) == (t.ds.length : Int)) = true := by simp; omega
    have n2 : decide (n = t.ds.length) = true := decide_eq_true hn
    have n3 : decide ((n : Int) = (t.ds.length : Int)) = true := decide_eq_true (by omega)
    have n4 : (n == t.ds.length) = true := by simp; omega
    have HPD : Hid (padT t n = ⟨t.ds ++ [zeroD], t.fs⟩) := Lib.hid (by unfold padT; rw [if_pos hn])
    have HL := Lib.hid (show (padT t n).ds.length = t.ds.length + 1 by rw [HPD.out]; simp)
    have HC := Lib.hid (show cellsD (padT t n).ds = cellsD t.ds ++ dcells zeroD by rw [HPD.out, cellsD_app]; rfl)
    have hl1 : t.ds.length ≤ 1000 := HZ.out.1
    clear hn
    go_upto_region 4 with (fail)
    clear u0 u1
    go_upto_region 5 with (first
      | (refine wpList_fresh1 ?_; intro W20 hb20 hA20 hs20; have S20 := Lib.hid (S3.out.call hb20); obtain ⟨u0, u1⟩ := cells2 (S20.out.at 2 rfl); obtain ⟨rows0, er0, hrd1, -, -⟩ := S20.out.g 1 rfl; have hown0 := own_empty (s := 6) hA20; have hlt20 := (Array.getElem?_eq_some_iff.1 hA20).1; clear hs20)
      | (at_builtin; go_loud (refine wpList_append_rd rfl (.tmp 15) (.tmp 17) 30 rfl W3.heap.size 39 iD _ 6 40 Try.underlying30 hD hDz hDs hDb rfl (by decide) _ 0 [] rfl hown0 W20.heap.size _ t.ds.length (cellsD t.ds) rfl hrd1.1 (cellsD_one _) (by unfold maxLen; omega) (by omega) (by omega) ?_); intro v21 W21 ho21 hgr21; rw [Nat.zero_add, List.nil_append] at ho21; obtain ⟨ao3, cp3, rfl⟩ := own_form ho21; have HB21 := Lib.hid (hb20.grown hgr21 hb20.size (fun j ej => Nat.le_of_eq (Option.some.inj ej))); have HO21 := Lib.hid ho21; clear hown0 hgr21 ho21 hrd1 hlt20 hA20 hb20 u0 u1))
    have S21 := Lib.hid (S3.out.call HB21.out)
    refine wp_region_held_drew (S := fun W => W.cell? ⟨w.heap.size, 1, none⟩ = some (.slice af t.fs.length capf) ∧ True) (by kernel_rfl) ⟨(cells2 (S21.out.at 0 rfl)).2, trivial⟩ (fun hHeld => ?_)
    have HB22 := Lib.hid (ret_tr HB21.out (Below.refl W21.heap.size W21).drew)
    have HO22 := Lib.hid (ownsRow_below HO21.out (Below.refl W21.heap.size W21).drew (Nat.le_refl _))
    generalize W21.drew = W22 at *
    have S22 := Lib.hid (S3.out.call HB22.out)
    clear S21 HB21 HO21
    refine wpAnyH_take (i := 0) (v := ?v1) rfl (by kernel_rfl) (by kernel_rfl) (by kernel_rfl) (fun _ _ _ h => h) (Or.inl ⟨by rfl, ?hy1⟩) hHeld ?rest1
    case hy1 => (intro w hSw; (try dsimp only at hSw); (try go_split_ands); go_simp; first | done | with_reducible rfl)
    (try simp only [List.getElem_toArray]); (try simp only [List.getElem_cons_succ]); (try simp only [List.getElem_cons_zero]); (try simp only [Act.put]); (try simp only [List.setIfInBounds_toArray]); (try simp only [List.set_cons_succ]); (try simp only [List.set_cons_zero])
    refine wpAnyH_take (i := 1) (v := ?v2) rfl (by kernel_rfl) (by kernel_rfl) (by kernel_rfl) (fun _ _ _ h => h) (Or.inl ⟨by rfl, ?hy2⟩) hHeld ?rest2
    case hy2 => (intro w hSw; (try dsimp only at hSw); (try go_split_ands); go_simp; first | done | with_reducible rfl)
    (try simp only [List.getElem_toArray]); (try simp only [List.getElem_cons_succ]); (try simp only [List.getElem_cons_zero]); (try simp only [Act.put]); (try simp only [List.setIfInBounds_toArray]); (try simp only [List.set_cons_succ]); (try simp only [List.set_cons_zero])
    refine wpAnyH_take (i := 4) (v := ?v3) rfl (by kernel_rfl) (by kernel_rfl) (by kernel_rfl) (fun _ _ _ h => h) (Or.inl ⟨by rfl, ?hy3⟩) hHeld ?rest3
    case hy3 => (intro w hSw; (try dsimp only at hSw); (try go_split_ands); go_simp; first | done | with_reducible rfl)
    (try simp only [List.getElem_toArray]); (try simp only [List.getElem_cons_succ]); (try simp only [List.getElem_cons_zero]); (try simp only [Act.put]); (try simp only [List.setIfInBounds_toArray]); (try simp only [List.set_cons_succ]); (try simp only [List.set_cons_zero])
    refine wpAnyH_ready (rs := [2, 5]) (by kernel_rfl) (by simp) ?_
    refine AllReadyH.cons rfl (fun K' hK => ?_) (AllReadyH.cons rfl (fun K' hK => ?_) AllReadyH.nil)
    · go_simp
      refine fresh1 (P := fun W => K' _ W) ?_
      intro W23 hb23 hA23 hs23
      have HB23 := Lib.hid (ret_tr HB22.out hb23)
      have S23 := Lib.hid (S3.out.call HB23.out)
      have HO23 := Lib.hid (ownsRow_below HO22.out hb23 (Nat.le_refl _))
      have hlt23 := hb23.size
      refine hK.out _ _ ⟨(cells2 (S23.out.at 0 rfl)).2, trivial⟩ (fun hHeld => ?_)
      clear hK K'
      (try simp only [List.getElem_toArray]); (try simp only [List.getElem_cons_succ]); (try simp only [List.getElem_cons_zero]); (try simp only [Act.put]); (try simp only [List.setIfInBounds_toArray]); (try simp only [List.set_cons_succ]); (try simp only [List.set_cons_zero])
      refine wpAnyH_ready (rs := [3, 5]) (by kernel_rfl) (by simp) ?_
      refine AllReadyH.cons rfl (fun K' hK => ?_) (AllReadyH.cons rfl (fun K' hK => ?_) AllReadyH.nil)
      · rw [if_pos (by rfl)]
        refine wp_append_lies W23 (.tmp 19) (.tmp 21) 30 rfl W3.heap.size 39 iD _ 6 40 Try.underlying30 hD hDz hDs hDb rfl (by decide) (.slice ao3 t.ds.length cp3) t.ds.length (cellsD t.ds) rfl HO23.out ⟨W22.heap.size, 0, none⟩ 1 1 (dcells zeroD) rfl rfl (World.news_of_block (cs := #[.int .i64 zeroD.ino, .int .i64 zeroD.pos, .bool zeroD.rd, .bool zeroD.wr, .int .i64 zeroD.refs, .int .i64 zeroD.lock]) (t := 39) (fr := (0, 0)) hA23) (dcells_one zeroD) (by decide) (by unfold maxLen; omega) (by omega) HB23.out.size _ rfl ?_
        intro gg cp2 W24 hown24 hgr24 hat24 hlt24
        have HB24 := Lib.hid (HB23.out.grown hgr24 HB23.out.size (fun g e => (HO23.out.lt g e).1))
        have S24 := Lib.hid (S3.out.call HB24.out)
        have HO24 := Lib.hid hown24
        clear hgr24 hat24 hlt24 hown24 hA23
        refine hK.out _ _ ⟨(cells2 (S24.out.at 0 rfl)).2, trivial⟩ (fun hHeld => ?_)
        clear hK K'
        (try simp only [List.getElem_toArray]); (try simp only [List.getElem_cons_succ]); (try simp only [List.getElem_cons_zero]); (try simp only [Act.put]); (try simp only [List.setIfInBounds_toArray]); (try simp only [List.set_cons_succ]); (try simp only [List.set_cons_zero])
        refine wpAnyH_ready (rs := [5]) (by kernel_rfl) (by simp) ?_
        refine AllReadyH.cons rfl (fun K' hK => ?_) AllReadyH.nil
        have o1 := (cells2 (S24.out.at 0 rfl)).2
        go_simp
        clear o1
        refine hK.out _ _ ⟨(cells2 (S24.out.at 0 rfl)).2, trivial⟩ (fun hHeld => ?_)
        clear hK K'
        (try simp only [List.getElem_toArray]); (try simp only [List.getElem_cons_succ]); (try simp only [List.getElem_cons_zero]); (try simp only [Act.put]); (try simp only [List.setIfInBounds_toArray]); (try simp only [List.set_cons_succ]); (try simp only [List.set_cons_zero])
        refine wpAnyH_take (i := 6) (v := ?v4) rfl (by kernel_rfl) (by kernel_rfl) (by kernel_rfl) (fun _ _ _ h => h) (Or.inl ⟨by rfl, ?hy4⟩) hHeld ?rest4
        case hy4 => (intro w hSw; (try dsimp only at hSw); (try go_split_ands); go_simp; first | done | with_reducible rfl)
        (try simp only [List.getElem_toArray]); (try simp only [List.getElem_cons_succ]); (try simp only [List.getElem_cons_zero]); (try simp only [Act.put]); (try simp only [List.setIfInBounds_toArray]); (try simp only [List.set_cons_succ]); (try simp only [List.set_cons_zero])
        refine wpAnyH_ready (rs := [7]) (by kernel_rfl) (by simp) ?_
        refine AllReadyH.cons rfl (fun K' hK => ?_) AllReadyH.nil
        rw [if_pos (by rfl)]
        refine wp_store_row 32 _ _ rfl _ rfl rfl (S24.out.at 1 rfl) rfl (by kernel_rfl) rfl ?_
        intro W25 hb hg hs hn
        have S25 := Lib.hid (S24.out.set 1 rfl hb hg hs hn)
        have HO25 := Lib.hid (own_other HO24.out (fun e => S24.out.apart HO24.out rfl _ e _ (List.mem_of_getElem? (i := 1) rfl) rfl) hg)
        clear hb hg hs hn
        refine hK.out _ _ ⟨(cells2 (S25.out.at 0 rfl)).2, trivial⟩ (fun hHeld => ?_)
        clear hK K'
        (try simp only [List.getElem_toArray]); (try simp only [List.getElem_cons_succ]); (try simp only [List.getElem_cons_zero]); (try simp only [Act.put]); (try simp only [List.setIfInBounds_toArray]); (try simp only [List.set_cons_succ]); (try simp only [List.set_cons_zero])
        refine wpAnyH_done (by kernel_rfl) ?_ _
        go_wp2_with fail
        refine bodyPost_ret (HRET.out _ _ _ (S25.out.at 1 rfl) rfl _ rfl) rfl ?_
        exact ⟨some ⟨gg, 0, none⟩, cp2, by rw [HL.out]; rfl, (S25.out.gX 0 rfl).padD (by rw [HPD.out]) (by rw [HL.out, HC.out]; exact RdX.own HO25.out (fun g hg => Nat.lt_of_lt_of_le (HOLD.out g hg) S3.out.bel.size)), S25.out.bel⟩
      · have o1 := (cells2 (S23.out.at 0 rfl)).2
        go_simp
        clear o1
        refine hK.out _ _ ⟨(cells2 (S23.out.at 0 rfl)).2, trivial⟩ (fun hHeld => ?_)
        clear hK K'
        (try simp only [List.getElem_toArray]); (try simp only [List.getElem_cons_succ]); (try simp only [List.getElem_cons_zero]); (try simp only [Act.put]); (try simp only [List.setIfInBounds_toArray]); (try simp only [List.set_cons_succ]); (try simp only [List.set_cons_zero])
        refine wpAnyH_ready (rs := [3]) (by kernel_rfl) (by simp) ?_
        refine AllReadyH.cons rfl (fun K' hK => ?_) AllReadyH.nil
        rw [if_pos (by rfl)]
        refine wp_append_lies W23 (.tmp 19) (.tmp 21) 30 rfl W3.heap.size 39 iD _ 6 40 Try.underlying30 hD hDz hDs hDb rfl (by decide) (.slice ao3 t.ds.length cp3) t.ds.length (cellsD t.ds) rfl HO23.out ⟨W22.heap.size, 0, none⟩ 1 1 (dcells zeroD) rfl rfl (World.news_of_block (cs := #[.int .i64 zeroD.ino, .int .i64 zeroD.pos, .bool zeroD.rd, .bool zeroD.wr, .int .i64 zeroD.refs, .int .i64 zeroD.lock]) (t := 39) (fr := (0, 0)) hA23) (dcells_one zeroD) (by decide) (by unfold maxLen; omega) (by omega) HB23.out.size _ rfl ?_
        intro gg cp2 W24 hown24 hgr24 hat24 hlt24
        have HB24 := Lib.hid (HB23.out.grown hgr24 HB23.out.size (fun g e => (HO23.out.lt g e).1))
        have S24 := Lib.hid (S3.out.call HB24.out)
        have HO24 := Lib.hid hown24
        clear hgr24 hat24 hlt24 hown24 hA23
        refine hK.out _ _ ⟨(cells2 (S24.out.at 0 rfl)).2, trivial⟩ (fun hHeld => ?_)
        clear hK K'
        (try simp only [List.getElem_toArray]); (try simp only [List.getElem_cons_succ]); (try simp only [List.getElem_cons_zero]); (try simp only [Act.put]); (try simp only [List.setIfInBounds_toArray]); (try simp only [List.set_cons_succ]); (try simp only [List.set_cons_zero])
        refine wpAnyH_take (i := 6) (v := ?v5) rfl (by kernel_rfl) (by kernel_rfl) (by kernel_rfl) (fun _ _ _ h => h) (Or.inl ⟨by rfl, ?hy5⟩) hHeld ?rest5
        case hy5 => (intro w hSw; (try dsimp only at hSw); (try go_split_ands); go_simp; first | done | with_reducible rfl)
        (try simp only [List.getElem_toArray]); (try simp only [List.getElem_cons_succ]); (try simp only [List.getElem_cons_zero]); (try simp only [Act.put]); (try simp only [List.setIfInBounds_toArray]); (try simp only [List.set_cons_succ]); (try simp only [List.set_cons_zero])
        refine wpAnyH_ready (rs := [7]) (by kernel_rfl) (by simp) ?_
        refine AllReadyH.cons rfl (fun K' hK => ?_) AllReadyH.nil
        rw [if_pos (by rfl)]
        refine wp_store_row 32 _ _ rfl _ rfl rfl (S24.out.at 1 rfl) rfl (by kernel_rfl) rfl ?_
        intro W25 hb hg hs hn
        have S25 := Lib.hid (S24.out.set 1 rfl hb hg hs hn)
        have HO25 := Lib.hid (own_other HO24.out (fun e => S24.out.apart HO24.out rfl _ e _ (List.mem_of_getElem? (i := 1) rfl) rfl) hg)
        clear hb hg hs hn
        refine hK.out _ _ ⟨(cells2 (S25.out.at 0 rfl)).2, trivial⟩ (fun hHeld => ?_)
        clear hK K'
        (try simp only [List.getElem_toArray]); (try simp only [List.getElem_cons_succ]); (try simp only [List.getElem_cons_zero]); (try simp only [Act.put]); (try simp only [List.setIfInBounds_toArray]); (try simp only [List.set_cons_succ]); (try simp only [List.set_cons_zero])
        refine wpAnyH_done (by kernel_rfl) ?_ _
        go_wp2_with fail
        refine bodyPost_ret (HRET.out _ _ _ (S25.out.at 1 rfl) rfl _ rfl) rfl ?_
        exact ⟨some ⟨gg, 0, none⟩, cp2, by rw [HL.out]; rfl, (S25.out.gX 0 rfl).padD (by rw [HPD.out]) (by rw [HL.out, HC.out]; exact RdX.own HO25.out (fun g hg => Nat.lt_of_lt_of_le (HOLD.out g hg) S3.out.bel.size)), S25.out.bel⟩
    · have o1 := (cells2 (S22.out.at 0 rfl)).2
      go_simp
      clear o1
      refine hK.out _ _ ⟨(cells2 (S22.out.at 0 rfl)).2, trivial⟩ (fun hHeld => ?_)
      clear hK K'
      (try simp only [List.getElem_toArray]); (try simp only [List.getElem_cons_succ]); (try simp only [List.getElem_cons_zero]); (try simp only [Act.put]); (try simp only [List.setIfInBounds_toArray]); (try simp only [List.set_cons_succ]); (try simp only [List.set_cons_zero])
      refine wpAnyH_ready (rs := [2]) (by kernel_rfl) (by simp) ?_
      refine AllReadyH.cons rfl (fun K' hK => ?_) AllReadyH.nil
      go_simp
      refine fresh1 (P := fun W => K' _ W) ?_
      intro W23 hb23 hA23 hs23
      have HB23 := Lib.hid (ret_tr HB22.out hb23)
      have S23 := Lib.hid (S3.out.call HB23.out)
      have HO23 := Lib.hid (ownsRow_below HO22.out hb23 (Nat.le_refl _))
      have hlt23 := hb23.size
      refine hK.out _ _ ⟨(cells2 (S23.out.at 0 rfl)).2, trivial⟩ (fun hHeld => ?_)
      clear hK K'
      (try simp only [List.getElem_toArray]); (try simp only [List.getElem_cons_succ]); (try simp only [List.getElem_cons_zero]); (try simp only [Act.put]); (try simp only [List.setIfInBounds_toArray]); (try simp only [List.set_cons_succ]); (try simp only [List.set_cons_zero])
      refine wpAnyH_ready (rs := [3]) (by kernel_rfl) (by simp) ?_
      refine AllReadyH.cons rfl (fun K' hK => ?_) AllReadyH.nil
      rw [if_pos (by rfl)]
      refine wp_append_lies W23 (.tmp 19) (.tmp 21) 30 rfl W3.heap.size 39 iD _ 6 40 Try.underlying30 hD hDz hDs hDb rfl (by decide) (.slice ao3 t.ds.length cp3) t.ds.length (cellsD t.ds) rfl HO23.out ⟨W22.heap.size, 0, none⟩ 1 1 (dcells zeroD) rfl rfl (World.news_of_block (cs := #[.int .i64 zeroD.ino, .int .i64 zeroD.pos, .bool zeroD.rd, .bool zeroD.wr, .int .i64 zeroD.refs, .int .i64 zeroD.lock]) (t := 39) (fr := (0, 0)) hA23) (dcells_one zeroD) (by decide) (by unfold maxLen; omega) (by omega) HB23.out.size _ rfl ?_
      intro gg cp2 W24 hown24 hgr24 hat24 hlt24
      have HB24 := Lib.hid (HB23.out.grown hgr24 HB23.out.size (fun g e => (HO23.out.lt g e).1))
      have S24 := Lib.hid (S3.out.call HB24.out)
      have HO24 := Lib.hid hown24
      clear hgr24 hat24 hlt24 hown24 hA23
      refine hK.out _ _ ⟨(cells2 (S24.out.at 0 rfl)).2, trivial⟩ (fun hHeld => ?_)
      clear hK K'
      (try simp only [List.getElem_toArray]); (try simp only [List.getElem_cons_succ]); (try simp only [List.getElem_cons_zero]); (try simp only [Act.put]); (try simp only [List.setIfInBounds_toArray]); (try simp only [List.set_cons_succ]); (try simp only [List.set_cons_zero])
      refine wpAnyH_take (i := 6) (v := ?v6) rfl (by kernel_rfl) (by kernel_rfl) (by kernel_rfl) (fun _ _ _ h => h) (Or.inl ⟨by rfl, ?hy6⟩) hHeld ?rest6
      case hy6 => (intro w hSw; (try dsimp only at hSw); (try go_split_ands); go_simp; first | done | with_reducible rfl)
      (try simp only [List.getElem_toArray]); (try simp only [List.getElem_cons_succ]); (try simp only [List.getElem_cons_zero]); (try simp only [Act.put]); (try simp only [List.setIfInBounds_toArray]); (try simp only [List.set_cons_succ]); (try simp only [List.set_cons_zero])
      refine wpAnyH_ready (rs := [7]) (by kernel_rfl) (by simp) ?_
      refine AllReadyH.cons rfl (fun K' hK => ?_) AllReadyH.nil
      rw [if_pos (by rfl)]
      refine wp_store_row 32 _ _ rfl _ rfl rfl (S24.out.at 1 rfl) rfl (by kernel_rfl) rfl ?_
      intro W25 hb hg hs hn
      have S25 := Lib.hid (S24.out.set 1 rfl hb hg hs hn)
      have HO25 := Lib.hid (own_other HO24.out (fun e => S24.out.apart HO24.out rfl _ e _ (List.mem_of_getElem? (i := 1) rfl) rfl) hg)
      clear hb hg hs hn
      refine hK.out _ _ ⟨(cells2 (S25.out.at 0 rfl)).2, trivial⟩ (fun hHeld => ?_)
      clear hK K'
      (try simp only [List.getElem_toArray]); (try simp only [List.getElem_cons_succ]); (try simp only [List.getElem_cons_zero]); (try simp only [Act.put]); (try simp only [List.setIfInBounds_toArray]); (try simp only [List.set_cons_succ]); (try simp only [List.set_cons_zero])
      refine wpAnyH_done (by kernel_rfl) ?_ _
      go_wp2_with fail
      refine bodyPost_ret (HRET.out _ _ _ (S25.out.at 1 rfl) rfl _ rfl) rfl ?_
      exact ⟨some ⟨gg, 0, none⟩, cp2, by rw [HL.out]; rfl, (S25.out.gX 0 rfl).padD (by rw [HPD.out]) (by rw [HL.out, HC.out]; exact RdX.own HO25.out (fun g hg => Nat.lt_of_lt_of_le (HOLD.out g hg) S3.out.bel.size)), S25.out.bel⟩
  · have n1 : ((n : Int) == (t.ds.length : Int)) = false := by simp; omega
    have n2 : decide (n = t.ds.length) = false := decide_eq_false hn
    have n3 : decide ((n : Int) = (t.ds.length : Int)) = false := decide_eq_false (by omega)
    have n4 : (n == t.ds.length) = false := by simp; omega
    have HPD : Hid (padT t n = t) := Lib.hid (by unfold padT; rw [if_neg hn])
    clear hn
    go_upto_region 3 with (fail)
    clear u0 u1
    have h_r := (S3.out.at 1 rfl)
    have h_u := (S3.out.at 2 rfl)
    go_wp2_with (first | (refine wpList_load_row rfl 32 _ rfl _ rfl 32 _ (0, 0) _ h_u Try.underlying32 rfl (by kernel_rfl) ?_) | (refine wpList_store_row rfl 32 _ _ rfl _ rfl rfl h_r rfl (by kernel_rfl) rfl ?_; intro W4 hb hg hs hn; have S4 := Lib.hid (S3.out.set 1 rfl hb hg hs hn); clear hb hg hs hn))
    refine bodyPost_ret (HRET.out _ _ _ (S4.out.at 1 rfl) rfl _ rfl) rfl ?_
    rw [HPD.out]
    exact ⟨_, _, rfl, S4.out.gX 1 rfl, S4.out.bel⟩
end Go.Proofs.Ytbcmhjgjcknfmaa
