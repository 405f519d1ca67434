/-
  The program's Node; the document's dir, look.
-/
import Derived.Test.YtckbhkchnhhecaaDoorWalkF
import Derived.Test.YtckbhkchnhhecaaDoorWalkPlain2
import Derived.Test.YtckbhkchnhhecaaDoorDskK
namespace Go.Proofs.YtckbhkchnhhecaaDoor
open Go.RowKit Go.Shelf
attribute [local go_sem ↓] Go.wp_at_zero Go.wp_at_succ

set_option maxRecDepth 100000 in
set_option maxHeartbeats 4000000 in
theorem wnode_any (v : Value) (ms : List NodeM) (most room who fr : Int) (path : Str) (follow : Bool) (w : World) (hv : RdM w.heap.size v ms w) (hd : DskW ms) (hpl : path.length ≤ 10000)
    (hg : w.cell? ⟨0, 0, none⟩ = some errTypeV) :
    Calls Tryd.prog 15 #[.agg #[v, .int .i64 most, .int .i64 room], .int .i64 who, .int .i64 fr, .string (bs path), .bool follow] w fun e w' => WNodeIs (walkL (pl ms) who fr path follow) e w w' := by
  obtain ⟨aod, capd, rfl, _, _⟩ := rdm_form hv
  have hb0 : Below w.heap.size w (w.alloc (.cells #[.slice aod ms.length capd, .int .i64 most, .int .i64 room] 24)) := (Below.refl _ w).alloc (Nat.le_refl _) _
  have hglt := World.block_lt_of_cell? w _ hg
  have HW := Lib.hid (walk_any (.slice aod ms.length capd) ms most room who fr path follow _ (rdm_keep hv hb0) hd hpl ((hb0.cell (p := ⟨0, 0, none⟩) hglt).trans hg))
  have hi := walk_ino hd.ok.right who fr path follow
  obtain ⟨R, hR⟩ : ∃ R, R = walkL (pl ms) who fr path follow := ⟨_, rfl⟩
  rw [← hR] at HW hi ⊢
  clear hv hg hR
  obtain ⟨⟨sd, sn, si, ss⟩, n⟩ := R
  dsimp only at hi
  have HI := Lib.hid hi
  clear hi
  go_enter Tryd.func15, Tryd.ntmps15
  go_wp2_with fail
  refine HW.out.mono ?_
  rintro e w1 ⟨rfl, hb1⟩
  have HB1 := Lib.hid (ret_tr hb0 hb1)
  clear hb0 hb1
  by_cases h0 : n = 0
  · subst h0
    by_cases hm : si = -1
    · subst hm
      go_wp2_with fail
      refine post_fresh1 ?_
      intro W5 hb5 hn5 hs5
      go_ret2
      exact ⟨rfl, ret_tr HB1.out hb5⟩
    · have hI : (si == -1) = false := by simpa using hm
      have hnn : ¬ si < 0 := by
        rcases HI.out rfl with h | h
        · exact absurd h hm
        · have := got_le h; omega
      have HN : Hid (wnodeL (⟨sd, sn, si, ss⟩, 0) = (si, 0)) := Lib.hid (by unfold wnodeL; rw [if_neg (by simp), if_neg hnn])
      clear hm hnn
      go_wp2_with fail
      refine post_fresh1 ?_
      intro W5 hb5 hn5 hs5
      go_ret2
      exact ⟨by rw [HN.out]; rfl, ret_tr HB1.out hb5⟩
  · have hI : (n != 0) = true := by simpa using h0
    have HN : Hid (wnodeL (⟨sd, sn, si, ss⟩, n) = (0, n)) := Lib.hid (by unfold wnodeL; rw [if_pos h0])
    clear h0
    go_wp2_with fail
    refine post_fresh1 ?_
    intro W5 hb5 hn5 hs5
    go_ret2
    exact ⟨by rw [HN.out]; rfl, ret_tr HB1.out hb5⟩
set_option maxRecDepth 100000 in
set_option maxHeartbeats 4000000 in
theorem rdir_any (v : Value) (ms : List NodeM) (most room i : Int) (w : World) (hv : RdM w.heap.size v ms w) (hl : ms.length ≤ 10000) :
    Calls Tryd.prog 25 #[.agg #[v, .int .i64 most, .int .i64 room], .int .i64 i] w fun e w' => NumIs (dirE (pl ms) i) e w w' := by
  obtain ⟨aod, capd, rfl, _, _⟩ := rdm_form hv
  have hb0 : Below w.heap.size w (w.alloc (.cells #[.slice aod ms.length capd, .int .i64 most, .int .i64 room] 37)) := (Below.refl _ w).alloc (Nat.le_refl _) _
  have HG := Lib.hid (rget_any _ ms most room i _ (rdm_keep hv hb0) hl)
  have HB0 := Lib.hid hb0
  clear hv hb0
  go_enter Tryd.func25, Tryd.ntmps25
  go_wp2_with fail
  refine HG.out.mono ?_
  rintro e w1 ⟨v1, rfl, hr1, hb1⟩
  rw [getL_node] at hr1 ⊢
  have HB1 := Lib.hid (ret_tr HB0.out hb1)
  obtain ⟨ao1, cp1, e1, _, _⟩ := Rd.form hr1
  have e1' : v1 = .slice ao1 (nodeL (pl ms) i).names.length cp1 := e1
  subst e1'
  clear hr1 hb1 e1
  obtain ⟨n, hn⟩ : ∃ n, n = nodeL (pl ms) i := ⟨_, rfl⟩
  rw [← hn]
  have HN := Lib.hid hn
  clear hn
  cases hg : gotB (pl ms) i with
  | false =>
    have HE : Hid (dirE (pl ms) i = 2) := Lib.hid (by unfold dirE; rw [hg]; rfl)
    clear hg
    go_wp2_with fail
    refine post_fresh1 ?_
    intro W5 hb5 hn5 hs5
    go_ret
    exact ⟨ret_int HE.out.symm, ret_tr HB1.out hb5⟩
  | true =>
    by_cases hk : n.kind = 2
    · have hI : (n.kind != 2) = false := by simpa using hk
      have HE : Hid (dirE (pl ms) i = 0) := Lib.hid (by unfold dirE; rw [if_pos hg, ← HN.out, if_pos hk])
      clear hg hk
      go_wp2_with fail
      refine post_fresh1 ?_
      intro W5 hb5 hn5 hs5
      go_ret
      exact ⟨ret_int HE.out.symm, ret_tr HB1.out hb5⟩
    · have hI : (n.kind != 2) = true := by simpa using hk
      have HE : Hid (dirE (pl ms) i = 4) := Lib.hid (by unfold dirE; rw [if_pos hg, ← HN.out, if_neg hk])
      clear hg hk
      go_wp2_with fail
      refine post_fresh1 ?_
      intro W5 hb5 hn5 hs5
      go_ret
      exact ⟨ret_int HE.out.symm, ret_tr HB1.out hb5⟩
set_option maxRecDepth 100000 in
set_option maxHeartbeats 4000000 in
theorem rlook_any (v : Value) (ms : List NodeM) (most room i : Int) (p : Str) (w : World) (hv : RdM w.heap.size v ms w) (hd : DskOk ms) :
    Calls Tryd.prog 28 #[.agg #[v, .int .i64 most, .int .i64 room], .int .i64 i, .string (bs p)] w fun e w' => NumIs (lookL (pl ms) i p) e w w' := by
  obtain ⟨aod, capd, rfl, _, _⟩ := rdm_form hv
  have hb0 : Below w.heap.size w (w.alloc (.cells #[.slice aod ms.length capd, .int .i64 most, .int .i64 room] 37)) := (Below.refl _ w).alloc (Nat.le_refl _) _
  have HG := Lib.hid (rget_any _ ms most room i _ (rdm_keep hv hb0) hd.len)
  have HB0 := Lib.hid hb0
  have hnl := hd.names i
  clear hv hb0
  go_enter Tryd.func28, Tryd.ntmps28
  go_wp2_with fail
  refine HG.out.mono ?_
  rintro e w1 ⟨v1, rfl, hr1, hb1⟩
  rw [getL_node] at hr1 ⊢
  have HB1 := Lib.hid (ret_tr HB0.out hb1)
  obtain ⟨ao1, cp1, e1, _, _⟩ := Rd.form hr1
  have e1' : v1 = .slice ao1 (nodeL (pl ms) i).names.length cp1 := e1
  subst e1'
  obtain ⟨n, hn⟩ : ∃ n, n = nodeL (pl ms) i := ⟨_, rfl⟩
  rw [← hn] at hr1 hnl ⊢
  have HN := Lib.hid hn
  have HR1 : Hid (Rd w1.heap.size 2 (.slice ao1 n.names.length cp1) n.names.length (ents n.names) w1) := Lib.hid hr1
  clear hr1 hb1 e1 hn
  have hlk : lookL (pl ms) i p = lookN i n p := by rw [HN.out]; rfl
  by_cases h1 : p = [46]
  · have hI : (p == [46]) = true := by simpa using h1
    have HE : Hid (lookL (pl ms) i p = i) := Lib.hid (by rw [hlk]; unfold lookN; rw [if_pos h1])
    clear h1 hlk
    go_wp2_with fail
    refine post_fresh1 ?_
    intro W5 hb5 hn5 hs5
    go_ret
    exact ⟨ret_int HE.out.symm, ret_tr HB1.out hb5⟩
  have hI1 : (p == [46]) = false := by simpa using h1
  by_cases h2 : p = [46, 46]
  · have hI : (p == [46, 46]) = true := by simpa using h2
    have HE : Hid (lookL (pl ms) i p = n.up) := Lib.hid (by rw [hlk]; unfold lookN; rw [if_neg h1, if_pos h2])
    clear h1 h2 hlk
    go_wp2_with fail
    refine post_fresh1 ?_
    intro W5 hb5 hn5 hs5
    go_ret
    exact ⟨ret_int HE.out.symm, ret_tr HB1.out hb5⟩
  have hI2 : (p == [46, 46]) = false := by simpa using h2
  have HE : Hid (lookL (pl ms) i p = (findL n.names p).getD (-1)) := Lib.hid (by rw [hlk]; unfold lookN; rw [if_neg h1, if_neg h2])
  clear h1 h2 hlk
  go_wp2_with fail
  refine calls_fresh1 ?_
  intro W5 hb5 hn5 hs5
  refine (rfind_any _ _ n.names p _ (rd_keep HR1.out hb5) hnl).mono ?_
  rintro e w6 ⟨rfl, rfl⟩
  go_wp2_with fail
  go_ret
  exact ⟨ret_int (by rw [HE.out]; rfl), ret_tr HB1.out hb5⟩
end Go.Proofs.YtckbhkchnhhecaaDoor
