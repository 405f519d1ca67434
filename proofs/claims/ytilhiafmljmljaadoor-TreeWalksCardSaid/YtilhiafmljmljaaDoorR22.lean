import Derived.Test.YtilhiafmljmljaaDoorR19
import Derived.Test.YtilhiafmljmljaaDoorR21
namespace Go.Proofs.YtilhiafmljmljaaDoor
open Go.RowKit Go.Shelf
attribute [local go_sem ↓] Go.wp_at_zero Go.wp_at_succ
set_option maxRecDepth 100000 in
set_option maxHeartbeats 2000000 in
theorem rget_any (v : Value) (ms : List NodeM) (most room i : Int) (w : World) (hv : RdM w.heap.size v ms w) (hl : ms.length ≤ 10000) :
    Calls Tryd.prog 28 #[.agg #[v, .int .i64 most, .int .i64 room], .int .i64 i] w fun e w' => GetIs (pl ms) i e w w' := by
  obtain ⟨ao, cap, rfl, _, _⟩ := rdm_form hv
  have HV := Lib.hid hv
  have HL := Lib.hid hl
  clear hv
  have hret : ∀ (W : World) (cs : Array Value) (fr), W.heap[w.heap.size + 1]? = some (.cells cs 64 fr) → cs.size = 8 → ∀ tmps : Array Value, tmps.getD 4 undef = .pointer (some ⟨w.heap.size + 1, 0, none⟩) → (results Tryd.f28 tmps).run Tryd.prog W = .ok (.tuple #[.agg cs, tmps.getD 5 undef]) W := fun W cs fr h hs tmps ht =>
    results_ct (p := 4) (u := 5) (ty := 64) rfl tmps W (w.heap.size + 1) _ cs fr _ ht h Tryd.underlying64 rfl (by rw [hs]; kernel_rfl)
  have no : ∀ W : World, gotB (pl ms) i = false → Below w.heap.size w W → GetIs (pl ms) i (.returned (.tuple #[.agg #[.int .i64 0, .int .i64 0, .int .i64 0, .int .i64 0, .int .i64 0, .int .i64 0, .string ⟨#[]⟩, .slice none 0 0], .bool false])) w W := fun _ h hb => get_no h hb
  have HNO := Lib.hid no
  clear no
  by_cases h1 : i < 0
  · have hI : decide (i < 0) = true := by simpa using h1
    have HG : Hid (gotB (pl ms) i = false) := Lib.hid (by unfold gotB inL; rw [show decide (0 ≤ i) = false by simp; omega]; rfl)
    clear h1
    go_enter Tryd.func28, Tryd.ntmps28
    go_wp2_with fail
    refine fresh2 (P := fun W => bodyPost _ _ _ _ _ W) ?_
    intro W0 hb0 hP hQ hs0
    refine bodyPost_ret (hret _ _ _ hQ rfl _ rfl) rfl ?_
    exact HNO.out _ HG.out hb0
  have g1 : decide (i < 0) = false := by simpa using h1
  by_cases h2 : (ms.length : Int) ≤ i
  · have hI : decide ((ms.length : Int) ≤ i) = true := by simpa using h2
    have HG : Hid (gotB (pl ms) i = false) := Lib.hid (by unfold gotB inL; rw [show decide (i < (pl ms).length) = false by rw [pl_len]; simpa using h2]; simp)
    clear h1 h2
    go_enter Tryd.func28, Tryd.ntmps28
    go_wp2_with fail
    refine fresh2 (P := fun W => bodyPost _ _ _ _ _ W) ?_
    intro W0 hb0 hP hQ hs0
    refine bodyPost_ret (hret _ _ _ hQ rfl _ rfl) rfl ?_
    exact HNO.out _ HG.out hb0
  have g2 : decide ((ms.length : Int) ≤ i) = false := by simpa using h2
  obtain ⟨k, rfl, hk⟩ : ∃ k : Nat, i = k ∧ k < ms.length := ⟨i.toNat, by omega, by omega⟩
  have hin := nat_in (l := pl ms) (k := k) (by rw [pl_len]; exact hk)
  have hat := at_nat (pl ms) k (by rw [pl_len]; exact hk)
  have k0 : (0 : Int) ≤ (k : Int) := by omega
  have k1 : (k : Int) < (ms.length : Int) := by omega
  obtain ⟨b, off, n, aon, capn, rfl, hb, hn, -, hrn, c0, c1, c2, c3, c4, c5, c6, c7⟩ := node_at HV.out k hk
  rw [hn] at hat
  by_cases h0 : n.kind = 0
  · have hd : (n.kind == 0) = true := by simpa using h0
    have HG : Hid (gotB (pl ms) k = false) := Lib.hid (by unfold gotB; rw [hat]; simp [h0])
    clear h0 h1 h2 hin hat hn hrn
    go_enter Tryd.func28, Tryd.ntmps28
    go_wp2_with fail
    refine fresh2 (P := fun W => bodyPost _ _ _ _ _ W) ?_
    intro W0 hb0 hP hQ hs0
    refine bodyPost_ret (hret _ _ _ hQ rfl _ rfl) rfl ?_
    exact HNO.out _ HG.out hb0
  · have hd : (n.kind == 0) = false := by simpa using h0
    have HG : Hid (gotB (pl ms) k = true) := Lib.hid (by unfold gotB; rw [hat, hin]; simp [h0])
    have HGe : Hid (getL (pl ms) k = n) := Lib.hid (by unfold getL; rw [HG.out, hat]; rfl)
    have HR := Lib.hid hrn
    clear h0 h1 h2 hin hat hn hrn
    go_enter Tryd.func28, Tryd.ntmps28
    go_wp2_with fail
    refine fresh2 (P := fun W => bodyPost _ _ _ _ _ W) ?_
    intro W0 hb0 hP hQ hs0
    refine bodyPost_ret (hret _ _ _ hQ rfl _ rfl) rfl ?_
    exact ⟨.slice aon n.names.length capn, by rw [HGe.out, HG.out]; rfl, by rw [HGe.out]; exact rd_keep HR.out hb0, hb0⟩
def NamesIs (l : List NodeL) (i : Int) (e : Ending) (W W' : World) : Prop := e = .returned (.tuple #[.int .i64 ((nmL l i (0, -1)).1 : Int), .int .i64 (nmL l i (0, -1)).2]) ∧ Below W.heap.size W W'
set_option maxRecDepth 100000 in
set_option maxHeartbeats 2000000 in
theorem names_any (v : Value) (ms : List NodeM) (most room i : Int) (w : World) (hv : RdM w.heap.size v ms w) (hsm : Small (pl ms)) :
    Calls Tryd.prog 34 #[.agg #[v, .int .i64 most, .int .i64 room], .int .i64 i] w fun e w' => NamesIs (pl ms) i e w w' := by
  have hl : ms.length ≤ 110 := by have := hsm.1; rwa [pl_len] at this
  obtain ⟨ao, cap, rfl, _, _⟩ := rdm_form hv
  have hb0 : Below w.heap.size w (w.alloc (.cells #[.slice ao ms.length cap, .int .i64 most, .int .i64 room] 39)) := (Below.refl _ w).alloc (Nat.le_refl _) _
  have HV := Lib.hid (hv.below hb0)
  have HS := Lib.hid hsm
  clear hv hsm
  go_enter Tryd.func34, Tryd.ntmps34
  go_wp2_with fail
  go_loop [6, 7, 8] (fun c d i' => ∃ k : Nat, i' = .int .i64 k ∧ k ≤ ms.length ∧ c = .int .i64 ((nmTo (pl ms) i (0, -1) k).1 : Int) ∧ d = .int .i64 (nmTo (pl ms) i (0, -1) k).2) (fun _ _ i' => ms.length - (intOf i').toNat)
  case atStart => exact ⟨0, rfl, Nat.zero_le _, rfl, rfl⟩
  case round =>
    obtain ⟨k, rfl, hk, rfl, rfl⟩ := hrel
    by_cases hlt : k < ms.length
    · obtain ⟨b, off, n, aon, capn, rfl, hb, hn, -, hrn, c0, c1, c2, c3, c4, c5, c6, c7⟩ := node_at HV.out k hlt
      have hsucc : Hid (nmTo (pl ms) i (0, -1) (k + 1) = foldN i k (nmTo (pl ms) i (0, -1) k) n.names) := Lib.hid (by
        show foldN i k _ ((pl ms).getD k zeroN).names = _
        rw [List.getD_eq_getElem?_getD, List.getElem?_eq_getElem (by rw [pl_len]; exact hlt), hn]
        rfl)
      have hle := nm_le HS.out i (0, -1) k
      have hnl : n.names.length ≤ 130 := (HS.out.2 n (by rw [← hn]; exact List.getElem_mem _)).2
      have HR := Lib.hid hrn
      clear hn hrn
      generalize nmTo (pl ms) i (0, -1) k = s at *
      have hle2 : s.1 ≤ 15000 := by simp at hle; omega
      clear hle
      go_wp2_with fail
      go_loop [6, 7, 9] (fun c d j' => ∃ j : Nat, j' = .int .i64 j ∧ j ≤ n.names.length ∧ c = .int .i64 ((foldN i k s (n.names.take j)).1 : Int) ∧ d = .int .i64 (foldN i k s (n.names.take j)).2) (fun _ _ j' => n.names.length - (intOf j').toNat)
      case atStart => exact ⟨0, rfl, Nat.zero_le _, rfl, rfl⟩
      case round =>
        obtain ⟨j, rfl, hj, rfl, rfl⟩ := hrel
        by_cases hlj : j < n.names.length
        · obtain ⟨b2, off2, cap2, e, _, _, _, _, hc⟩ := HR.out.at (by omega)
          injection e with e1 _ e2
          subst e1
          subst e2
          have d1 : World.cell? _ ⟨b2, off2 + j * 2 + 1, none⟩ = _ := hc (j * 2 + 1) _ (ents_at1 n.names j hlj)
          have hst := foldN_succ i k s n.names j hlj
          have hfl := fold_le i k (n.names.take j) s
          rw [List.length_take] at hfl
          generalize n.names[j] = f at *
          generalize foldN i k s (n.names.take j) = t at *
          obtain ⟨fx, fz⟩ := f
          by_cases hz : fz = i
          · have hI : (fz == i) = true := by simpa using hz
            have hst2 : foldN i k s (n.names.take (j + 1)) = (t.1 + 1, (k : Int)) := by rw [hst]; unfold stepN; rw [if_pos hz]
            have HST := Lib.hid hst2
            have ht1 : t.1 ≤ 16000 := by omega
            clear hz hst hst2 hc hfl
            go_wp2_with fail
            go_round
            case rel => exact ⟨j + 1, by go_num, hlj, by rw [HST.out]; go_num, by rw [HST.out]⟩
            case measure => simp [intOf]; omega
          · have hI : (fz == i) = false := by simpa using hz
            have hst2 : foldN i k s (n.names.take (j + 1)) = t := by rw [hst]; unfold stepN; rw [if_neg hz]
            have HST := Lib.hid hst2
            clear hz hst hst2 hc hfl
            go_wp2_with fail
            go_round
            case rel => exact ⟨j + 1, by go_num, hlj, by rw [HST.out], by rw [HST.out]⟩
            case measure => simp [intOf]; omega
        · have hje : j = n.names.length := by omega
          have HT : Hid (foldN i k s (n.names.take j) = nmTo (pl ms) i (0, -1) (k + 1)) := Lib.hid (by rw [hje, List.take_length, hsucc.out])
          have hI2 : decide (j < n.names.length) = false := by simp; omega
          clear hje hlj
          go_wp2_with fail
          go_round
          case rel => exact ⟨k + 1, by go_num, hlt, by rw [HT.out], by rw [HT.out]⟩
          case measure => simp [intOf]; omega
    · have hke : k = ms.length := by omega
      have HT : Hid (nmTo (pl ms) i (0, -1) k = nmL (pl ms) i (0, -1)) := Lib.hid (by rw [hke]; unfold nmL; rw [pl_len])
      have hI2 : decide (k < ms.length) = false := by simp; omega
      clear hke hlt
      rw [HT.out]
      go_wp2_with fail
      go_ret2
      exact ⟨rfl, hb0⟩
end Go.Proofs.YtilhiafmljmljaaDoor
namespace Go.Proofs.YtilhiafmljmljaaDoor
open Go.RowKit Go.Shelf
attribute [local go_sem ↓] Go.wp_at_zero Go.wp_at_succ
set_option maxRecDepth 100000 in
set_option maxHeartbeats 4000000 in
theorem wnode_any (v : Value) (ms : List NodeM) (most room who fr : Int) (path : Str) (follow : Bool) (w : World) (hv : RdM w.heap.size v ms w) (hd : DskW ms) (hpl : path.length ≤ 10000)
    (hg : w.cell? ⟨0, 0, none⟩ = some errTypeV) :
    Calls Tryd.prog 8 #[.agg #[v, .int .i64 most, .int .i64 room], .int .i64 who, .int .i64 fr, .string (bs path), .bool follow] w fun e w' => WNodeIs (walkL (pl ms) who fr path follow) e w w' := by
  obtain ⟨aod, capd, rfl, _, _⟩ := rdm_form hv
  have hb0 : Below w.heap.size w (w.alloc (.cells #[.slice aod ms.length capd, .int .i64 most, .int .i64 room] 24)) := (Below.refl _ w).alloc (Nat.le_refl _) _
  have hglt := World.block_lt_of_cell? w _ hg
  have HW := Lib.hid (walk_any (.slice aod ms.length capd) ms most room who fr path follow _ (rdm_keep hv hb0) hd hpl ((hb0.cell (p := ⟨0, 0, none⟩) hglt).trans hg))
  have hi := walk_ino hd.ok.right who fr path follow
  obtain ⟨R, hR⟩ : ∃ R, R = walkL (pl ms) who fr path follow := ⟨_, rfl⟩
  rw [← hR] at HW hi ⊢
  clear hv hg hR
  obtain ⟨⟨sd, sn, si, ss⟩, n⟩ := R
  dsimp only at hi
  have HI := Lib.hid hi
  clear hi
  go_enter Tryd.func8, Tryd.ntmps8
  go_wp2_with fail
  refine HW.out.mono ?_
  rintro e w1 ⟨rfl, hb1⟩
  have HB1 := Lib.hid (ret_tr hb0 hb1)
  clear hb0 hb1
  by_cases h0 : n = 0
  · subst h0
    by_cases hm : si = -1
    · subst hm
      go_wp2_with fail
      refine post_fresh1 ?_
      intro W5 hb5 hn5 hs5
      go_ret2
      exact ⟨rfl, ret_tr HB1.out hb5⟩
    · have hI : (si == -1) = false := by simpa using hm
      have hnn : ¬ si < 0 := by
        rcases HI.out rfl with h | h
        · exact absurd h hm
        · have := got_le h; omega
      have HN : Hid (wnodeL (⟨sd, sn, si, ss⟩, 0) = (si, 0)) := Lib.hid (by unfold wnodeL; rw [if_neg (by simp), if_neg hnn])
      clear hm hnn
      go_wp2_with fail
      refine post_fresh1 ?_
      intro W5 hb5 hn5 hs5
      go_ret2
      exact ⟨by rw [HN.out]; rfl, ret_tr HB1.out hb5⟩
  · have hI : (n != 0) = true := by simpa using h0
    have HN : Hid (wnodeL (⟨sd, sn, si, ss⟩, n) = (0, n)) := Lib.hid (by unfold wnodeL; rw [if_pos h0])
    clear h0
    go_wp2_with fail
    refine post_fresh1 ?_
    intro W5 hb5 hn5 hs5
    go_ret2
    exact ⟨by rw [HN.out]; rfl, ret_tr HB1.out hb5⟩
set_option maxRecDepth 100000 in
set_option maxHeartbeats 4000000 in
theorem rdir_any (v : Value) (ms : List NodeM) (most room i : Int) (w : World) (hv : RdM w.heap.size v ms w) (hl : ms.length ≤ 10000) :
    Calls Tryd.prog 27 #[.agg #[v, .int .i64 most, .int .i64 room], .int .i64 i] w fun e w' => NumIs (dirE (pl ms) i) e w w' := by
  obtain ⟨aod, capd, rfl, _, _⟩ := rdm_form hv
  have hb0 : Below w.heap.size w (w.alloc (.cells #[.slice aod ms.length capd, .int .i64 most, .int .i64 room] 39)) := (Below.refl _ w).alloc (Nat.le_refl _) _
  have HG := Lib.hid (rget_any _ ms most room i _ (rdm_keep hv hb0) hl)
  have HB0 := Lib.hid hb0
  clear hv hb0
  go_enter Tryd.func27, Tryd.ntmps27
  go_wp2_with fail
  refine HG.out.mono ?_
  rintro e w1 ⟨v1, rfl, hr1, hb1⟩
  rw [getL_node] at hr1 ⊢
  have HB1 := Lib.hid (ret_tr HB0.out hb1)
  obtain ⟨ao1, cp1, e1, _, _⟩ := Rd.form hr1
  have e1' : v1 = .slice ao1 (nodeL (pl ms) i).names.length cp1 := e1
  subst e1'
  clear hr1 hb1 e1
  obtain ⟨n, hn⟩ : ∃ n, n = nodeL (pl ms) i := ⟨_, rfl⟩
  rw [← hn]
  have HN := Lib.hid hn
  clear hn
  cases hg : gotB (pl ms) i with
  | false =>
    have HE : Hid (dirE (pl ms) i = 2) := Lib.hid (by unfold dirE; rw [hg]; rfl)
    clear hg
    go_wp2_with fail
    refine post_fresh1 ?_
    intro W5 hb5 hn5 hs5
    go_ret
    exact ⟨ret_int HE.out.symm, ret_tr HB1.out hb5⟩
  | true =>
    by_cases hk : n.kind = 2
    · have hI : (n.kind != 2) = false := by simpa using hk
      have HE : Hid (dirE (pl ms) i = 0) := Lib.hid (by unfold dirE; rw [if_pos hg, ← HN.out, if_pos hk])
      clear hg hk
      go_wp2_with fail
      refine post_fresh1 ?_
      intro W5 hb5 hn5 hs5
      go_ret
      exact ⟨ret_int HE.out.symm, ret_tr HB1.out hb5⟩
    · have hI : (n.kind != 2) = true := by simpa using hk
      have HE : Hid (dirE (pl ms) i = 4) := Lib.hid (by unfold dirE; rw [if_pos hg, ← HN.out, if_neg hk])
      clear hg hk
      go_wp2_with fail
      refine post_fresh1 ?_
      intro W5 hb5 hn5 hs5
      go_ret
      exact ⟨ret_int HE.out.symm, ret_tr HB1.out hb5⟩
set_option maxRecDepth 100000 in
set_option maxHeartbeats 4000000 in
theorem rlook_any (v : Value) (ms : List NodeM) (most room i : Int) (p : Str) (w : World) (hv : RdM w.heap.size v ms w) (hd : DskOk ms) :
    Calls Tryd.prog 30 #[.agg #[v, .int .i64 most, .int .i64 room], .int .i64 i, .string (bs p)] w fun e w' => NumIs (lookL (pl ms) i p) e w w' := by
  obtain ⟨aod, capd, rfl, _, _⟩ := rdm_form hv
  have hb0 : Below w.heap.size w (w.alloc (.cells #[.slice aod ms.length capd, .int .i64 most, .int .i64 room] 39)) := (Below.refl _ w).alloc (Nat.le_refl _) _
  have HG := Lib.hid (rget_any _ ms most room i _ (rdm_keep hv hb0) hd.len)
  have HB0 := Lib.hid hb0
  have hnl := hd.names i
  clear hv hb0
  go_enter Tryd.func30, Tryd.ntmps30
  go_wp2_with fail
  refine HG.out.mono ?_
  rintro e w1 ⟨v1, rfl, hr1, hb1⟩
  rw [getL_node] at hr1 ⊢
  have HB1 := Lib.hid (ret_tr HB0.out hb1)
  obtain ⟨ao1, cp1, e1, _, _⟩ := Rd.form hr1
  have e1' : v1 = .slice ao1 (nodeL (pl ms) i).names.length cp1 := e1
  subst e1'
  obtain ⟨n, hn⟩ : ∃ n, n = nodeL (pl ms) i := ⟨_, rfl⟩
  rw [← hn] at hr1 hnl ⊢
  have HN := Lib.hid hn
  have HR1 : Hid (Rd w1.heap.size 2 (.slice ao1 n.names.length cp1) n.names.length (ents n.names) w1) := Lib.hid hr1
  clear hr1 hb1 e1 hn
  have hlk : lookL (pl ms) i p = lookN i n p := by rw [HN.out]; rfl
  by_cases h1 : p = [46]
  · have hI : (p == [46]) = true := by simpa using h1
    have HE : Hid (lookL (pl ms) i p = i) := Lib.hid (by rw [hlk]; unfold lookN; rw [if_pos h1])
    clear h1 hlk
    go_wp2_with fail
    refine post_fresh1 ?_
    intro W5 hb5 hn5 hs5
    go_ret
    exact ⟨ret_int HE.out.symm, ret_tr HB1.out hb5⟩
  have hI1 : (p == [46]) = false := by simpa using h1
  by_cases h2 : p = [46, 46]
  · have hI : (p == [46, 46]) = true := by simpa using h2
    have HE : Hid (lookL (pl ms) i p = n.up) := Lib.hid (by rw [hlk]; unfold lookN; rw [if_neg h1, if_pos h2])
    clear h1 h2 hlk
    go_wp2_with fail
    refine post_fresh1 ?_
    intro W5 hb5 hn5 hs5
    go_ret
    exact ⟨ret_int HE.out.symm, ret_tr HB1.out hb5⟩
  have hI2 : (p == [46, 46]) = false := by simpa using h2
  have HE : Hid (lookL (pl ms) i p = (findL n.names p).getD (-1)) := Lib.hid (by rw [hlk]; unfold lookN; rw [if_neg h1, if_neg h2])
  clear h1 h2 hlk
  go_wp2_with fail
  refine calls_fresh1 ?_
  intro W5 hb5 hn5 hs5
  refine (rfind_any _ _ n.names p _ (rd_keep HR1.out hb5) hnl).mono ?_
  rintro e w6 ⟨rfl, rfl⟩
  go_wp2_with fail
  go_ret
  exact ⟨ret_int (by rw [HE.out]; rfl), ret_tr HB1.out hb5⟩
end Go.Proofs.YtilhiafmljmljaaDoor
