import Derived.Test.YtilhiafmljmljaaDoorR19
import Derived.StillTailTactics
namespace Go.Proofs.YtilhiafmljmljaaDoor
open Go.RowKit Go.Shelf
attribute [local go_sem ↓] Go.wp_at_zero Go.wp_at_succ
def lookN (i : Int) (n : NodeL) (p : Str) : Int := if p = [46] then i else if p = [46, 46] then n.up else (findL n.names p).getD (-1)
set_option maxRecDepth 100000 in
set_option maxHeartbeats 4000000 in
theorem named_any (b : Nat) (F : WayF) (i : Int) (vl : Value) (left : List Str) (hops : Nat) (sp : SpotL) (n : NodeL) (v : Value) (p : Str) (w : World) (hw : WayM b F i vl left hops sp w) (hv : RdNm w.heap.size (n, v) w) (hl : n.names.length ≤ 10000) (hu : Up n.names) :
    Calls Tryd.prog 56 #[.pointer (some ⟨b, 0, none⟩), nval n v, .string (bs p)] w fun e w' => NumIs (lookN i n p) e w w' := by
  obtain ⟨ao, cap, e, _, _⟩ := Rd.form hv
  have e' : v = .slice ao n.names.length cap := e
  subst e'
  have HV : Hid (Rd w.heap.size 2 (.slice ao n.names.length cap) n.names.length (ents n.names) w) := Lib.hid hv
  have hbl := hw.lt
  have hb0 : Below w.heap.size w (w.alloc (.cells #[.int .i64 n.kind, .int .i64 n.mode, .int .i64 n.owner, .int .i64 n.links, .int .i64 n.opn, .int .i64 n.up, .string (bs n.data), .slice ao n.names.length cap] 44)) := (Below.refl _ _).alloc (Nat.le_refl _) _
  obtain ⟨c0, c1, c2, c3, c4, c5, c6, c7, c8, c9, c10, c11, c12⟩ := cells13 (hw.keep hb0).blk
  have HU := Lib.hid hu
  clear hv e hw hu c0 c1 c2 c3 c4 c5 c7 c8 c9 c10 c11 c12
  by_cases h1 : p = [46]
  · have hI : (p == [46]) = true := by simpa using h1
    have HE : Hid (lookN i n p = i) := Lib.hid (by unfold lookN; rw [if_pos h1])
    clear h1
    go_enter Tryd.func56, Tryd.ntmps56
    go_wp2_with fail
    go_ret
    exact ⟨ret_int HE.out.symm, hb0⟩
  have hI1 : (p == [46]) = false := by simpa using h1
  by_cases h2 : p = [46, 46]
  · have hI : (p == [46, 46]) = true := by simpa using h2
    have HE : Hid (lookN i n p = n.up) := Lib.hid (by unfold lookN; rw [if_neg h1, if_pos h2])
    clear h1 h2
    go_enter Tryd.func56, Tryd.ntmps56
    go_wp2_with fail
    go_ret
    exact ⟨ret_int HE.out.symm, hb0⟩
  have hI2 : (p == [46, 46]) = false := by simpa using h2
  have HE : Hid (lookN i n p = (findL n.names p).getD (-1)) := Lib.hid (by unfold lookN; rw [if_neg h1, if_neg h2])
  clear h1 h2
  go_enter Tryd.func56, Tryd.ntmps56
  go_wp2_with fail
  refine (find_any _ _ n.names p _ (rd_keep HV.out hb0) (Nat.le_refl _) hl HU.out).mono ?_
  rintro e w1 ⟨rfl, hb1⟩
  go_wp2_with fail
  go_ret
  exact ⟨ret_int (by rw [HE.out]; rfl), ret_tr hb0 hb1⟩
def finL (l : List NodeL) (F : WayF) (i : Int) (left : List Str) (hops : Nat) (sp : SpotL) : ResL := if left = [] then (sp, 0) else goW l F.who F.follow F.slash i left hops
def StepIs (l : List NodeL) (b : Nat) (F : WayF) (M : Nat) (R : ResL) (e : Ending) (w w' : World) : Prop :=
  (∃ n, R = (zeroS, n) ∧ Wrong n b e w w') ∨ (∃ i left hops sp, GoesOn b F i left hops sp e w w' ∧ finL l F i left hops sp = R ∧ hops ≤ 8 ∧ (8 - hops) * 101 + left.length < M)
theorem parts_le (p : Str) : (parts p).length ≤ p.length := by have := spans_len p; simpa [parts] using this
theorem check_len {p : Str} (h : checkE p = 0) : p.length ≤ 100 := by
  unfold checkE at h
  split at h
  · cases h
  · split at h
    · cases h
    · omega
theorem StepIs.from {l : List NodeL} {b : Nat} {F : WayF} {M : Nat} {R : ResL} {e : Ending} {w w0 w' : World} (hg : w.grownBy w0 (some b)) (h : StepIs l b F M R e w0 w') : StepIs l b F M R e w w' := by
  rcases h with ⟨n, h1, h2, h3, h4⟩ | ⟨i, left, hops, sp, ⟨vl, h1, h2, h3⟩, h4⟩
  · exact .inl ⟨n, h1, h2, h3, grown_tr hg h4⟩
  · exact .inr ⟨i, left, hops, sp, ⟨vl, h1, h2, grown_tr hg h3⟩, h4⟩
theorem StepIs.ends {l : List NodeL} {b : Nat} {F : WayF} {M : Nat} {R : ResL} {e : Ending} {w w' : World} (h : StepIs l b F M R e w w') : ∃ v : Value, e = .returned v ∧ v.oneCell' = true ∧ StepIs l b F M R (.returned v) w w' := by
  rcases h with ⟨n, h1, h2, rfl, h4⟩ | ⟨i, left, hops, sp, ⟨vl, rfl, h2, h3⟩, h4⟩
  · exact ⟨_, rfl, rfl, .inl ⟨n, h1, h2, rfl, h4⟩⟩
  · exact ⟨_, rfl, rfl, .inr ⟨i, left, hops, sp, ⟨vl, rfl, h2, h3⟩, h4⟩⟩
theorem step_hop {l : List NodeL} {b : Nat} {F : WayF} {i : Int} {p : Str} {rest : List Str} {hops : Nat} {e : Ending} {w w' : World} (h : dirE l i = 0) (h2 : mayAt l F.who i = true) (h3 : ¬ lookL l i p < 0) (h4 : (nodeL l (lookL l i p)).kind = 3) (h5 : rest ≠ [] ∨ F.follow = true ∨ F.slash = true) (hh : hops ≤ 8)
    (hop : HopIs (checkE (nodeL l (lookL l i p)).data) b F i rest hops (nodeL l (lookL l i p)).data e w w') : StepIs l b F ((8 - hops) * 101 + rest.length + 1) (goW l F.who F.follow F.slash i (p :: rest) hops) e w w' := by
  unfold HopIs at hop
  split at hop
  · rename_i h6
    rw [go_loop h h2 h3 h4 h5 h6]
    exact .inl ⟨8, rfl, hop⟩
  · rename_i h6
    rcases hop with hop | ⟨h7, hop⟩
    · by_cases h7 : checkE (nodeL l (lookL l i p)).data = 0
      · exact absurd h7 hop.1
      · rw [go_bad h h2 h3 h4 h5 h6 h7]
        exact .inl ⟨_, rfl, hop⟩
    · rw [go_link h h2 h3 h4 h5 h6 h7]
      refine .inr ⟨_, _, _, _, hop, ?_, by omega, ?_⟩
      · unfold finL
        split
        · rename_i h8
          rw [h8, go_nil]
        · rfl
      · have h9 := parts_le (nodeL l (lookL l i p)).data
        have h10 := check_len h7
        rw [List.length_append]
        omega
set_option maxRecDepth 100000 in
set_option maxHeartbeats 4000000 in
theorem enter_last (b : Nat) (F : WayF) (i : Int) (vl : Value) (p : Str) (hops : Nat) (ms : List NodeM) (w : World) (hw : WayM b F i vl [] hops ⟨i, p, lookL (pl ms) i p, F.slash⟩ w) (hv : RdM w.heap.size F.nodes ms w) (hd : DskOk ms)
    (h1 : dirE (pl ms) i = 0) (h2 : mayAt (pl ms) F.who i = true) (hh : hops ≤ 8) (hdl : ∀ n ∈ pl ms, n.data.length ≤ 10000) :
    Calls Tryd.prog 57 #[.pointer (some ⟨b, 0, none⟩), .int .i64 (lookL (pl ms) i p)] w fun e w' => StepIs (pl ms) b F ((8 - hops) * 101 + 0 + 1) (goW (pl ms) F.who F.follow F.slash i [p] hops) e w w' := by
  obtain ⟨aod, capd, ed, _, _⟩ := rdm_form hv
  obtain ⟨aol, capl, el, _, _⟩ := hw.lft.form
  obtain ⟨nodes, most, room, who, follow, slash⟩ := F
  dsimp only at ed hv h2 hw ⊢
  subst ed
  subst el
  have HW := Lib.hid hw
  have hbl := hw.lt
  obtain ⟨c0, c1, c2, c3, c4, c5, c6, c7, c8, c9, c10, c11, c12⟩ := cells13 hw.blk
  have HG := Lib.hid (get_any _ ms most room (lookL (pl ms) i p) w hv hd.len hd.nms)
  have hlook : gotB (pl ms) (lookL (pl ms) i p) = true ↔ 0 ≤ lookL (pl ms) i p := (look_got hd.right h1 p).trans (by omega)
  have hkind := fun h => right_kind (i := lookL (pl ms) i p) hd.right h
  obtain ⟨j, hj⟩ : ∃ j, j = lookL (pl ms) i p := ⟨_, rfl⟩
  have HJ := Lib.hid hj
  rw [← hj] at HG hlook hkind c11 ⊢
  have H1 := Lib.hid h1
  have H2 := Lib.hid h2
  have HLK := Lib.hid hlook
  have HKD := Lib.hid hkind
  clear hj h1 h2 hw hlook hkind
  go_enter Tryd.func57, Tryd.ntmps57
  go_wp2_with fail
  refine HG.out.mono ?_
  rintro e w4 ⟨v4, rfl, hr4, hb4⟩
  rw [getL_node] at hr4 ⊢
  have hW4 := HW.out.keep hb4
  have HW4 := Lib.hid hW4
  have HB4 := Lib.hid hb4
  obtain ⟨ao4, cp4, e4, _, _⟩ := Rd.form hr4
  have e4' : v4 = .slice ao4 (nodeL (pl ms) j).names.length cp4 := e4
  subst e4'
  clear c0 c1 c2 c3 c4 c5 c6 c7 c8 c9 c10 c11 c12 hr4 e4
  obtain ⟨c0, c1, c2, c3, c4, c5, c6, c7, c8, c9, c10, c11, c12⟩ := cells13 hW4.blk
  have hbl4 := hW4.lt
  have rf := fun j' => Lib.frozen_of_heap hW4.blk j'
  clear hW4 hb4
  cases hg : gotB (pl ms) j with
  | false =>
    have hneg : lookL (pl ms) i p < 0 := by
      rw [← HJ.out]
      exact Decidable.byContradiction fun h => by have := HLK.out.2 (by omega); rw [hg] at this; cases this
    have hm1 := (look_neg hd.right H1.out p).1 hneg
    have HR : Hid (goW (pl ms) who follow slash i [p] hops = (⟨i, p, j, slash⟩, 0)) := Lib.hid (by rw [go_none1 H1.out H2.out hneg rfl, HJ.out, hm1])
    clear hg hneg hm1
    go_wp2_with fail
    refine fresh1 (P := fun W => bodyPost _ _ _ _ _ W) ?_
    intro W5 hb5 hn5 hs5
    go_ret
    exact .inr ⟨i, [], hops, _, ⟨_, rfl, HW4.out.keep hb5, grown_bel (ret_tr HB4.out hb5)⟩, by rw [HR.out, HJ.out]; rfl, hh, by simp⟩
  | true =>
    have hnn : ¬ lookL (pl ms) i p < 0 := by have := HLK.out.1 hg; rw [← HJ.out]; omega
    have HNN : Hid (0 ≤ lookL (pl ms) i p) := Lib.hid (by omega)
    have hk := HKD.out hg
    have hdj : (nodeL (pl ms) j).data.length ≤ 10000 := by
      obtain ⟨k, rfl, hlt, hn, _, _⟩ := right_ok hd.right hg
      rw [hn]; exact hdl _ (List.getElem_mem hlt)
    clear hg hnn
    obtain ⟨m, hm⟩ : ∃ m, m = nodeL (pl ms) j := ⟨_, rfl⟩
    have HM : Hid (nodeL (pl ms) (lookL (pl ms) i p) = m) := Lib.hid (by rw [← HJ.out, hm])
    rw [← hm] at hk hdj ⊢
    clear hm
    have hset : ∀ (o : Obj), goW (pl ms) who follow slash i [p] hops = (⟨i, p, j, slash⟩, 0) →
        StepIs (pl ms) b ⟨.slice aod ms.length capd, most, room, who, follow, slash⟩ ((8 - hops) * 101 + 0 + 1) (goW (pl ms) who follow slash i [p] hops) (.returned .nilIface) w ((w4.setCell ⟨b, 6, none⟩ (.int .i64 j)).alloc o) := fun o hR =>
      .inr ⟨j, [], hops, _, ⟨_, rfl, (HW4.out.setAt j).keep ((Below.refl _ _).alloc (Nat.le_refl _) o), grown_al (grown_sc (grown_bel HB4.out) _) o⟩, by rw [hR, HJ.out]; rfl, hh, by simp⟩
    have HSET := Lib.hid hset
    have hne3 : ∀ (x : Int), x ≠ 3 → m.kind = x → ¬ ((nodeL (pl ms) (lookL (pl ms) i p)).kind = 3 ∧ (([] : List Str) ≠ [] ∨ follow = true ∨ slash = true)) := fun x h1 h2 h => by rw [HM.out, h2] at h; exact h1 h.1
    have HNE := Lib.hid hne3
    clear hset hne3
    rcases hk with hk | hk | hk
    · have k1 : (m.kind == 3) = false := by rw [hk]; rfl
      have k2 : (m.kind == 1) = true := by rw [hk]; rfl
      have HN3 := HNE.out 1 (by decide) hk
      cases slash with
      | true =>
        have HR : Hid (goW (pl ms) who follow true i [p] hops = (zeroS, 4)) := Lib.hid (go_file H1.out H2.out (Int.not_lt.2 HNN.out) HN3 rfl ⟨rfl, by rw [HM.out, hk]; decide⟩)
        clear hk HN3
        go_wp2_with fail
        refine fresh1 (P := fun W => bodyPost _ _ _ _ _ W) ?_
        intro W5 hb5 hn5 hs5
        go_ret
        exact .inl ⟨4, HR.out, by decide, rfl, grown_bel (ret_tr HB4.out hb5)⟩
      | false =>
        have HR : Hid (goW (pl ms) who follow false i [p] hops = (⟨i, p, j, false⟩, 0)) := Lib.hid (by rw [go_spot H1.out H2.out (Int.not_lt.2 HNN.out) HN3 rfl (by rintro ⟨h, _⟩; cases h), HJ.out])
        clear hk HN3
        go_wp2_with fail
        go_ret
        exact HSET.out _ HR.out
    · have k1 : (m.kind == 3) = false := by rw [hk]; rfl
      have k2 : (m.kind == 1) = false := by rw [hk]; rfl
      have k3 : (m.kind == 2) = true := by rw [hk]; rfl
      have HN3 := HNE.out 2 (by decide) hk
      have HR : Hid (goW (pl ms) who follow slash i [p] hops = (⟨i, p, j, slash⟩, 0)) := Lib.hid (by rw [go_spot H1.out H2.out (Int.not_lt.2 HNN.out) HN3 rfl (by rintro ⟨_, h⟩; rw [HM.out] at h; exact h hk), HJ.out])
      clear hk HN3
      go_wp2_with fail
      go_ret
      exact HSET.out _ HR.out
    · have k1 : (m.kind == 3) = true := by rw [hk]; rfl
      have k2 : (m.kind == 1) = false := by rw [hk]; rfl
      have k3 : (m.kind == 2) = false := by rw [hk]; rfl
      have HK3 : Hid ((nodeL (pl ms) (lookL (pl ms) i p)).kind = 3) := Lib.hid (by rw [HM.out, hk])
      clear hk
      by_cases hfs : follow = true ∨ slash = true
      · have hp : (∀ (h5 : ([] : List Str) ≠ [] ∨ follow = true ∨ slash = true), True) := fun _ => trivial
        have HHOP := fun W5 (hb5 : Below w4.heap.size w4 W5) => hop_any b _ i _ [] hops _ m.data W5 (HW4.out.keep hb5) (by simp) hdj hh
        have HH := Lib.hid HHOP
        clear HHOP hp
        have hs : slash = true ∨ (slash = false ∧ follow = true) := by
          cases slash
          · exact .inr ⟨rfl, by simpa using hfs⟩
          · exact .inl rfl
        clear hfs
        rcases hs with hs | ⟨hs, hf⟩
        · subst hs
          go_wp2_with fail
          refine fresh1 (P := fun W => Calls _ _ _ W _) ?_
          intro W5 hb5 hn5 hs5
          refine (HH.out W5 hb5).mono ?_
          intro e w6 h
          rw [← HM.out] at h
          have hst := (step_hop H1.out H2.out (Int.not_lt.2 HNN.out) HK3.out (by simp) hh h).from (grown_bel (row := some b) (ret_tr HB4.out hb5))
          obtain ⟨v6, rfl, _, hst⟩ := hst.ends
          have HST := Lib.hid hst
          clear h hst
          go_wp2_with fail
          go_ret
          exact HST.out
        · subst hs hf
          go_wp2_with fail
          refine fresh1 (P := fun W => Calls _ _ _ W _) ?_
          intro W5 hb5 hn5 hs5
          refine (HH.out W5 hb5).mono ?_
          intro e w6 h
          rw [← HM.out] at h
          have hst := (step_hop H1.out H2.out (Int.not_lt.2 HNN.out) HK3.out (by simp) hh h).from (grown_bel (row := some b) (ret_tr HB4.out hb5))
          obtain ⟨v6, rfl, _, hst⟩ := hst.ends
          have HST := Lib.hid hst
          clear h hst
          go_wp2_with fail
          go_ret
          exact HST.out
      · have hs : slash = false := by cases slash <;> simp_all
        have hf : follow = false := by cases follow <;> simp_all
        subst hs hf
        have HR : Hid (goW (pl ms) who false false i [p] hops = (⟨i, p, j, false⟩, 0)) := Lib.hid (by rw [go_spot H1.out H2.out (Int.not_lt.2 HNN.out) (fun h => by simp at h) rfl (by rintro ⟨h, _⟩; cases h), HJ.out])
        clear hfs HNE
        go_wp2_with fail
        go_ret
        exact HSET.out _ HR.out
set_option maxRecDepth 100000 in
set_option maxHeartbeats 4000000 in
theorem enter_more (b : Nat) (F : WayF) (i : Int) (vl : Value) (p q : Str) (rest : List Str) (hops : Nat) (ms : List NodeM) (w : World) (hw : WayM b F i vl (q :: rest) hops ⟨i, p, lookL (pl ms) i p, F.slash⟩ w) (hv : RdM w.heap.size F.nodes ms w) (hd : DskOk ms)
    (h1 : dirE (pl ms) i = 0) (h2 : mayAt (pl ms) F.who i = true) (hh : hops ≤ 8) (hdl : ∀ n ∈ pl ms, n.data.length ≤ 10000) (hrl : rest.length ≤ 9999) :
    Calls Tryd.prog 57 #[.pointer (some ⟨b, 0, none⟩), .int .i64 (lookL (pl ms) i p)] w fun e w' => StepIs (pl ms) b F ((8 - hops) * 101 + (q :: rest).length + 1) (goW (pl ms) F.who F.follow F.slash i (p :: q :: rest) hops) e w w' := by
  obtain ⟨aod, capd, ed, _, _⟩ := rdm_form hv
  obtain ⟨aol, capl, el, _, _⟩ := hw.lft.form
  obtain ⟨nodes, most, room, who, follow, slash⟩ := F
  dsimp only at ed hv h2 hw ⊢
  subst ed
  subst el
  have hlen : (((q :: rest).length : Int) == 0) = false := by rw [beq_eq_false_iff_ne, List.length_cons]; omega
  have hl0 : (q :: rest).length ≤ 10000 := by rw [List.length_cons]; omega
  have HW := Lib.hid hw
  have hbl := hw.lt
  obtain ⟨c0, c1, c2, c3, c4, c5, c6, c7, c8, c9, c10, c11, c12⟩ := cells13 hw.blk
  have HG := Lib.hid (get_any _ ms most room (lookL (pl ms) i p) w hv hd.len hd.nms)
  have hlook : gotB (pl ms) (lookL (pl ms) i p) = true ↔ 0 ≤ lookL (pl ms) i p := (look_got hd.right h1 p).trans (by omega)
  have hkind := fun h => right_kind (i := lookL (pl ms) i p) hd.right h
  obtain ⟨j, hj⟩ : ∃ j, j = lookL (pl ms) i p := ⟨_, rfl⟩
  have HJ := Lib.hid hj
  rw [← hj] at HG hlook hkind c11 ⊢
  have H1 := Lib.hid h1
  have H2 := Lib.hid h2
  have HLK := Lib.hid hlook
  have HKD := Lib.hid hkind
  clear hj h1 h2 hw hlook hkind
  go_enter Tryd.func57, Tryd.ntmps57
  go_wp2_with fail
  refine HG.out.mono ?_
  rintro e w4 ⟨v4, rfl, hr4, hb4⟩
  rw [getL_node] at hr4 ⊢
  have hW4 := HW.out.keep hb4
  have HW4 := Lib.hid hW4
  have HB4 := Lib.hid hb4
  obtain ⟨ao4, cp4, e4, _, _⟩ := Rd.form hr4
  have e4' : v4 = .slice ao4 (nodeL (pl ms) j).names.length cp4 := e4
  subst e4'
  clear c0 c1 c2 c3 c4 c5 c6 c7 c8 c9 c10 c11 c12 hr4 e4
  obtain ⟨c0, c1, c2, c3, c4, c5, c6, c7, c8, c9, c10, c11, c12⟩ := cells13 hW4.blk
  have hbl4 := hW4.lt
  have rf := fun j' => Lib.frozen_of_heap hW4.blk j'
  clear hW4 hb4
  cases hg : gotB (pl ms) j with
  | false =>
    have hneg : lookL (pl ms) i p < 0 := by
      rw [← HJ.out]
      exact Decidable.byContradiction fun h => by have := HLK.out.2 (by omega); rw [hg] at this; cases this
    have HR : Hid (goW (pl ms) who follow slash i (p :: q :: rest) hops = (zeroS, 2)) := Lib.hid (go_none2 H1.out H2.out hneg (by simp))
    clear hg hneg
    go_wp2_with fail
    refine fresh1 (P := fun W => bodyPost _ _ _ _ _ W) ?_
    intro W5 hb5 hn5 hs5
    go_ret
    exact .inl ⟨2, HR.out, by decide, rfl, grown_bel (ret_tr HB4.out hb5)⟩
  | true =>
    have hnn : ¬ lookL (pl ms) i p < 0 := by have := HLK.out.1 hg; rw [← HJ.out]; omega
    have HNN : Hid (0 ≤ lookL (pl ms) i p) := Lib.hid (by omega)
    have hk := HKD.out hg
    have hdj : (nodeL (pl ms) j).data.length ≤ 10000 := by
      obtain ⟨k, rfl, hlt, hn, _, _⟩ := right_ok hd.right hg
      rw [hn]; exact hdl _ (List.getElem_mem hlt)
    have HG1 := Lib.hid hg
    clear hg hnn
    obtain ⟨m, hm⟩ : ∃ m, m = nodeL (pl ms) j := ⟨_, rfl⟩
    have HM : Hid (nodeL (pl ms) (lookL (pl ms) i p) = m) := Lib.hid (by rw [← HJ.out, hm])
    rw [← hm] at hk hdj ⊢
    clear hm
    have hset : ∀ (o : Obj), goW (pl ms) who follow slash i (p :: q :: rest) hops = goW (pl ms) who follow slash j (q :: rest) hops →
        StepIs (pl ms) b ⟨.slice aod ms.length capd, most, room, who, follow, slash⟩ ((8 - hops) * 101 + (q :: rest).length + 1) (goW (pl ms) who follow slash i (p :: q :: rest) hops) (.returned .nilIface) w ((w4.setCell ⟨b, 6, none⟩ (.int .i64 j)).alloc o) := fun o hR =>
      .inr ⟨j, q :: rest, hops, _, ⟨_, rfl, (HW4.out.setAt j).keep ((Below.refl _ _).alloc (Nat.le_refl _) o), grown_al (grown_sc (grown_bel HB4.out) _) o⟩, by rw [hR]; rfl, hh, by omega⟩
    have HSET := Lib.hid hset
    have HGt := Lib.hid (show gotB (pl ms) (lookL (pl ms) i p) = true by rw [← HJ.out]; exact HG1.out)
    clear hset
    rcases hk with hk | hk | hk
    · have k1 : (m.kind == 3) = false := by rw [hk]; rfl
      have k2 : (m.kind == 1) = true := by rw [hk]; rfl
      have HR : Hid (goW (pl ms) who follow slash i (p :: q :: rest) hops = (zeroS, 4)) := Lib.hid (go_stuck H1.out H2.out HGt.out (Int.not_lt.2 HNN.out) (by rw [HM.out, hk]))
      clear hk
      go_wp2_with fail
      refine fresh1 (P := fun W => bodyPost _ _ _ _ _ W) ?_
      intro W5 hb5 hn5 hs5
      go_ret
      exact .inl ⟨4, HR.out, by decide, rfl, grown_bel (ret_tr HB4.out hb5)⟩
    · have k1 : (m.kind == 3) = false := by rw [hk]; rfl
      have k2 : (m.kind == 1) = false := by rw [hk]; rfl
      have k3 : (m.kind == 2) = true := by rw [hk]; rfl
      have HR : Hid (goW (pl ms) who follow slash i (p :: q :: rest) hops = goW (pl ms) who follow slash j (q :: rest) hops) := Lib.hid (by rw [go_on H1.out H2.out (Int.not_lt.2 HNN.out) (by rw [HM.out, hk]; decide) (by simp), ← HJ.out])
      clear hk
      go_wp2_with fail
      go_ret
      exact HSET.out _ HR.out
    · have k1 : (m.kind == 3) = true := by rw [hk]; rfl
      have HK3 : Hid ((nodeL (pl ms) (lookL (pl ms) i p)).kind = 3) := Lib.hid (by rw [HM.out, hk])
      clear hk
      have HHOP := fun W5 (hb5 : Below w4.heap.size w4 W5) => hop_any b _ i _ (q :: rest) hops _ m.data W5 (HW4.out.keep hb5) hl0 hdj hh
      have HH := Lib.hid HHOP
      clear HHOP
      go_wp2_with fail
      refine fresh1 (P := fun W => Calls _ _ _ W _) ?_
      intro W5 hb5 hn5 hs5
      refine (HH.out W5 hb5).mono ?_
      intro e w6 h
      rw [← HM.out] at h
      have hst := (step_hop H1.out H2.out (Int.not_lt.2 HNN.out) HK3.out (by simp) hh h).from (grown_bel (row := some b) (ret_tr HB4.out hb5))
      obtain ⟨v6, rfl, _, hst⟩ := hst.ends
      have HST := Lib.hid hst
      clear h hst
      go_wp2_with fail
      go_ret
      exact HST.out
end Go.Proofs.YtilhiafmljmljaaDoor
namespace Go.Proofs.YtilhiafmljmljaaDoor
open Go.RowKit Go.Shelf
attribute [local go_sem ↓] Go.wp_at_zero Go.wp_at_succ
theorem grown_below_b {b : Nat} {w w' : World} (h : w.grownBy w' (some b)) (hb : b ≤ w.heap.size) : Below b w w' := ⟨h.os, h.tape, h.output, h.size, fun k hk => h.block k (by omega) (by intro e; cases e; omega)⟩
theorem WayM.setSpot {b : Nat} {F : WayF} {i : Int} {vl : Value} {left : List Str} {hops : Nat} {sp : SpotL} {W : World} (h : WayM b F i vl left hops sp W) (x : Int) (y : Str) (z : Int) (u : Bool) :
    WayM b F i vl left hops ⟨x, y, z, u⟩ ((((W.setCell ⟨b, 9, none⟩ (.int .i64 x)).setCell ⟨b, 10, none⟩ (.string (bs y))).setCell ⟨b, 11, none⟩ (.int .i64 z)).setCell ⟨b, 12, none⟩ (.bool u)) :=
  ⟨(heap_set (heap_set (heap_set (heap_set h.blk)))).trans (by simp), rd_grown h.lft (grown_sc (grown_sc (grown_sc (grown_set _ ⟨b, 9, none⟩ _) _) _) _) h.far, h.far⟩
theorem grown_spot {b : Nat} {W W' : World} (h : W.grownBy W' (some b)) (x : Int) (y : Str) (z : Int) (u : Bool) : W.grownBy ((((W'.setCell ⟨b, 9, none⟩ (.int .i64 x)).setCell ⟨b, 10, none⟩ (.string (bs y))).setCell ⟨b, 11, none⟩ (.int .i64 z)).setCell ⟨b, 12, none⟩ (.bool u)) (some b) :=
  grown_sc (grown_sc (grown_sc (grown_sc h _) _) _) _
set_option maxRecDepth 100000 in
set_option maxHeartbeats 4000000 in
theorem step_any (b : Nat) (F : WayF) (i : Int) (vl : Value) (rest : List Str) (hops : Nat) (sp : SpotL) (p : Str) (ms : List NodeM) (w : World) (hw : WayM b F i vl rest hops sp w) (hv : RdM b F.nodes ms w) (hd : DskOk ms)
    (hh : hops ≤ 8) (hdl : ∀ n ∈ pl ms, n.data.length ≤ 10000) (hrl : rest.length ≤ 9999) :
    Calls Tryd.prog 43 #[.pointer (some ⟨b, 0, none⟩), .string (bs p)] w fun e w' => StepIs (pl ms) b F ((8 - hops) * 101 + rest.length + 1) (goW (pl ms) F.who F.follow F.slash i (p :: rest) hops) e w w' := by
  have hbl := hw.lt
  have HW := Lib.hid hw
  have HV := Lib.hid hv
  have HD := Lib.hid (dir_any b F i vl rest hops sp ms w hw (hv.mono (Nat.le_of_lt hbl)) hd)
  clear hw hv
  go_enter Tryd.func43, Tryd.ntmps43
  go_wp2_with fail
  refine HD.out.mono ?_
  rintro e w1 (⟨hne, rfl, hb1⟩ | ⟨h0, v, rfl, hr1, hb1⟩)
  · have HR : Hid (goW (pl ms) F.who F.follow F.slash i (p :: rest) hops = (zeroS, dirE (pl ms) i)) := Lib.hid (go_dir hne)
    have HNE := Lib.hid hne
    generalize dirE (pl ms) i = x at *
    clear hne
    go_wp2_with fail
    refine fresh1 (P := fun W => bodyPost _ _ _ _ _ W) ?_
    intro W5 hb5 hn5 hs5
    go_ret
    exact .inl ⟨x, HR.out, HNE.out, rfl, grown_bel (ret_tr hb1 hb5)⟩
  · have H0 := Lib.hid h0
    have hso := (right_sorted hd.right i).2
    have hnl := hd.names i
    obtain ⟨n, hn⟩ : ∃ n, n = nodeL (pl ms) i := ⟨_, rfl⟩
    have HN := Lib.hid hn
    rw [← hn] at hr1 hso hnl ⊢
    obtain ⟨ao1, cp1, e1, _, _⟩ := Rd.form hr1
    have e1' : v = .slice ao1 n.names.length cp1 := e1
    subst e1'
    have HSo := Lib.hid hso
    have HR1 := Lib.hid hr1
    clear h0 hn hso hr1 e1
    have hW1 := HW.out.keep hb1
    have HW1 := Lib.hid hW1
    clear hW1
    go_wp2_with fail
    refine fresh1 (P := fun W => Code.wp _ _ _ _ W) ?_
    intro W2 hb2 hn2 hs2
    have hW2 := HW1.out.keep hb2
    have HW2 := Lib.hid hW2
    have HB2 := Lib.hid (ret_tr hb1 hb2)
    have HR2 := Lib.hid (rdnm_keep HR1.out hb2)
    have HN2 := Lib.hid hn2
    have hbl2 := hW2.lt
    obtain ⟨c0, c1, c2, c3, c4, c5, c6, c7, c8, c9, c10, c11, c12⟩ := cells13 hW2.blk
    obtain ⟨n0, n1, n2, n3, n4, n5, n6, n7⟩ := cells8 hn2
    have hlt2 : w1.heap.size < W2.heap.size := by omega
    have hblg : b < w1.heap.size := HW1.out.lt
    clear hW2 hn2 HR1 HW1 hb1 hb2 hs2 HD
    have HMay : Hid (mayAt (pl ms) F.who i = mayB n.mode n.owner F.who 1) := Lib.hid (by unfold mayAt; rw [← HN.out])
    have HMB := fun w => may_any n.mode n.owner F.who 1 w
    obtain ⟨g, hg⟩ : ∃ g, g = w1.heap.size := ⟨_, rfl⟩
    rw [← hg] at n0 n1 n2 n3 n4 n5 n6 n7 hlt2 HN2 hblg ⊢
    clear hg
    cases hm : mayB n.mode n.owner F.who 1 with
    | false =>
      rw [hm] at HMB
      have HR : Hid (goW (pl ms) F.who F.follow F.slash i (p :: rest) hops = (zeroS, 7)) := Lib.hid (go_may H0.out (by rw [HMay.out, hm]))
      clear hm
      go_quiet ((go_at_call 55; exact Calls.quiet_of_same ((HMB _).mono fun e w' h => ⟨h.1, h.2.symm⟩)))
      go_wp2_with fail
      go_ret
      exact .inl ⟨7, HR.out, by decide, rfl, grown_bel (below_drewN HB2.out _)⟩
    | true =>
      rw [hm] at HMB
      have HMt := Lib.hid (show mayAt (pl ms) F.who i = true by rw [HMay.out, hm])
      clear hm
      go_quiet ((go_at_call 55; exact Calls.quiet_of_same ((HMB _).mono fun e w' h => ⟨h.1, h.2.symm⟩)))
      go_wp2_with fail
      refine (named_any b F i vl rest hops sp n _ p _ (HW2.out.keep (below_drewN (Below.refl _ _) _)) HR2.out hnl HSo.out).mono ?_
      rintro e w3 ⟨rfl, hb3⟩
      have hB3 := ret_tr (below_drewN HB2.out _) hb3
      have hW3 := HW.out.keep hB3
      have HW3 := Lib.hid hW3
      have HB3 := Lib.hid hB3
      clear c0 c1 c2 c3 c4 c5 c6 c7 c8 c9 c10 c11 c12 n0 n1 n2 n3 n4 n5 n6 n7
      obtain ⟨c0, c1, c2, c3, c4, c5, c6, c7, c8, c9, c10, c11, c12⟩ := cells13 hW3.blk
      have rf := fun j => Lib.frozen_of_heap hW3.blk j
      clear hW3 hB3 hb3
      go_wp2_with fail
      go_still_tail 14, (by kernel_rfl)
      have hlk : lookN i n p = lookL (pl ms) i p := by rw [HN.out]; rfl
      rw [hlk]
      clear hlk
      change wpList _ _ _ _ _ w3.drew
      have hWs := (HW3.out.keep ((Below.refl _ w3).drew)).setSpot i p (lookL (pl ms) i p) F.slash
      have hgs := grown_spot (grown_bel (row := some b) (HB3.out.drew)) i p (lookL (pl ms) i p) F.slash
      have hVs := (HV.out.below (grown_below_b hgs (Nat.le_of_lt hbl))).mono (Nat.le_of_lt hWs.lt)
      have HE : Hid (Calls Tryd.prog 57 #[.pointer (some ⟨b, 0, none⟩), .int .i64 (lookL (pl ms) i p)] ((((w3.drew.setCell ⟨b, 9, none⟩ (.int .i64 i)).setCell ⟨b, 10, none⟩ (.string (bs p))).setCell ⟨b, 11, none⟩ (.int .i64 (lookL (pl ms) i p))).setCell ⟨b, 12, none⟩ (.bool F.slash)) fun e w' => StepIs (pl ms) b F ((8 - hops) * 101 + rest.length + 1) (goW (pl ms) F.who F.follow F.slash i (p :: rest) hops) e w w') := Lib.hid (by
        cases rest with
        | nil => exact (enter_last b F i vl p hops ms _ hWs hVs hd H0.out HMt.out hh hdl).mono fun e w' h => h.from hgs
        | cons q r => exact (enter_more b F i vl p q r hops ms _ hWs hVs hd H0.out HMt.out hh hdl (by simp at hrl; omega)).mono fun e w' h => h.from hgs)
      generalize lookL (pl ms) i p = j at *
      have c9' : w3.drew.cell? ⟨b, 9, none⟩ = _ := c9
      have c10' : w3.drew.cell? ⟨b, 10, none⟩ = _ := c10
      have c11' : w3.drew.cell? ⟨b, 11, none⟩ = _ := c11
      have c12' : w3.drew.cell? ⟨b, 12, none⟩ = _ := c12
      have rf' : ∀ j, w3.drew.frozen? ⟨b, j, none⟩ = false := rf
      clear hWs hgs hVs c0 c1 c2 c3 c4 c5 c6 c7 c8 c9 c10 c11 c12 rf
      generalize w3.drew = w4 at *
      go_wp2_with fail
      refine HE.out.mono ?_
      intro e w5 h
      obtain ⟨v5, rfl, _, hst⟩ := h.ends
      have HST := Lib.hid hst
      clear h hst
      go_wp2_with fail
      go_ret
      exact HST.out
end Go.Proofs.YtilhiafmljmljaaDoor
