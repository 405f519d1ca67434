/-
  The document's Node.
-/
import Derived.Test.YtckbhkchnhhecaaDoorWalkH
namespace Go.Proofs.YtckbhkchnhhecaaDoor
open Go.RowKit Go.Shelf
attribute [local go_sem ↓] Go.wp_at_zero Go.wp_at_succ

theorem rwalk_any (v : Value) (ms : List NodeM) (most room who fr : Int) (path : Str) (follow : Bool) (w : World) (hv : RdM w.heap.size v ms w) (hd : DskW ms) (hpl : path.length ≤ 10000) :
    Calls Tryd.prog 13 #[.agg #[v, .int .i64 most, .int .i64 room], .int .i64 who, .int .i64 fr, .string (bs path), .bool follow] w fun e w' => WalkIs (walkL (pl ms) who fr path follow) e w w' :=
  rwalk_R _ v ms most room who fr path follow w hv hd hpl rfl
set_option maxRecDepth 100000 in
set_option maxHeartbeats 4000000 in
theorem rnode_any (v : Value) (ms : List NodeM) (most room who fr : Int) (path : Str) (follow : Bool) (w : World) (hv : RdM w.heap.size v ms w) (hd : DskW ms) (hpl : path.length ≤ 10000) :
    Calls Tryd.prog 16 #[.agg #[v, .int .i64 most, .int .i64 room], .int .i64 who, .int .i64 fr, .string (bs path), .bool follow] w fun e w' => WNodeIs (walkL (pl ms) who fr path follow) e w w' := by
  obtain ⟨aod, capd, rfl, _, _⟩ := rdm_form hv
  have hb0 : Below w.heap.size w (w.alloc (.cells #[.slice aod ms.length capd, .int .i64 most, .int .i64 room] 37)) := (Below.refl _ w).alloc (Nat.le_refl _) _
  have HW := Lib.hid (rwalk_any (.slice aod ms.length capd) ms most room who fr path follow _ (rdm_keep hv hb0) hd hpl)
  obtain ⟨R, hR⟩ : ∃ R, R = walkL (pl ms) who fr path follow := ⟨_, rfl⟩
  rw [← hR] at HW ⊢
  clear hv hR
  obtain ⟨⟨sd, sn, si, ss⟩, n⟩ := R
  go_enter Tryd.func16, Tryd.ntmps16
  go_wp2_with fail
  refine HW.out.mono ?_
  rintro e w1 ⟨rfl, hb1⟩
  have HB1 := Lib.hid (ret_tr hb0 hb1)
  clear hb0 hb1
  by_cases h0 : n = 0
  · subst h0
    by_cases hm : si < 0
    · have hI : decide (si < 0) = true := by simpa using hm
      have HN : Hid (wnodeL (⟨sd, sn, si, ss⟩, 0) = (0, 2)) := Lib.hid (by unfold wnodeL; rw [if_neg (by simp), if_pos hm])
      clear hm
      go_wp2_with fail
      refine post_fresh1 ?_
      intro W5 hb5 hn5 hs5
      go_ret2
      exact ⟨by rw [HN.out]; rfl, ret_tr HB1.out hb5⟩
    · have hI : decide (si < 0) = false := by simpa using hm
      have HN : Hid (wnodeL (⟨sd, sn, si, ss⟩, 0) = (si, 0)) := Lib.hid (by unfold wnodeL; rw [if_neg (by simp), if_neg hm])
      clear hm
      go_wp2_with fail
      refine post_fresh1 ?_
      intro W5 hb5 hn5 hs5
      go_ret2
      exact ⟨by rw [HN.out]; rfl, ret_tr HB1.out hb5⟩
  · have hI : (n != 0) = true := by simpa using h0
    have HN : Hid (wnodeL (⟨sd, sn, si, ss⟩, n) = (0, n)) := Lib.hid (by unfold wnodeL; rw [if_pos h0])
    clear h0
    go_wp2_with fail
    refine post_fresh1 ?_
    intro W5 hb5 hn5 hs5
    go_ret2
    exact ⟨by rw [HN.out]; rfl, ret_tr HB1.out hb5⟩
end Go.Proofs.YtckbhkchnhhecaaDoor
