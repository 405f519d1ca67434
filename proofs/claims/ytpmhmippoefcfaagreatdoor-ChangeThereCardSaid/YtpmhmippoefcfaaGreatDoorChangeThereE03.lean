/-
  The document's Node. What the changes of a disk have in common: what is told; the ways, of whatever reads as these nodes. Ways on a disk to which a name has come, or from which one has gone; what was entered, dropped and renamed. A name that was dropped leads nowhere; what was renamed is there; how large a disk becomes. How large a disk becomes. Disks that a change gives may be changed again; the example of the statements on changes, plainly. A statement's state; the small contracts, of whatever reads as these nodes.
-/
import Derived.RangeFuncNested
import Derived.RangeFuncBound
import Derived.RangeFuncCalls
import Derived.RangeFuncLeaves
import Derived.RangeFuncBox
import Derived.Shelf.Abstract
import Derived.Shelf.RegionOpen
import Derived.WalkKit
import Derived.OwnWalkIn
import Derived.TacticsInMore
import Derived.LoopNIn
import Derived.LoopIn
import Derived.Lib.Hide
import Derived.Outline
import Derived.Deep.QuietTactic
import Derived.Deep.AppendLies
import Derived.BigQuiet
import Derived.Lib.Strings
import Derived.WalkSmall
import Derived.Shelf.Small.Strs
import Derived.Shelf.Strings.Search1
import Derived.Shelf.Strings.Prefix
import Derived.Laws.AppendOwn
import Derived.Laws.OwnMore
import Derived.Laws.AppendOwnNone
import Derived.WideShapes
import Derived.Lib.TrimByte
import Derived.Lib.Bytealg
import Derived.Lib.QuietBelow
import Derived.Deep.DrawnRows
import Derived.Laws.Cover1
import Derived.WalkMore
import Derived.Shelf.Spec.SlicesGrow
import Derived.StillTailTactics
import Derived.Laws.BitsLemmas
import Derived.Laws.RangeAny
import Derived.Laws.Runes
import Derived.Lib.Builder
import Derived.Deep.WholeRow
import Derived.Lib.OthersKept
import Derived.Shelf.SlSorted.Search
import Derived.LaidEql
import Derived.Stop.Asserts
import Derived.RowKitTokens
import Derived.Deep.RegionHeld3
import Derived.Deep.RegionLaw
import Derived.Handy
import Derived.Laws.IdiomCopy
import Derived.Lib.SliceRun
import Derived.Laws.ResultCell
import Derived.Deep.LoopGhost
import Derived.Deep.DeepCutAuto
import Derived.Deep.MidRow
import Derived.BigRegion
import Derived.Test.YtpmhmippoefcfaaGreatDoorProg
import Derived.Test.YtpmhmippoefcfaaGreatDoorShelf
import Derived.Test.YtpmhmippoefcfaaGreatDoorB01
import Derived.Test.YtpmhmippoefcfaaGreatDoorB02
import Derived.Test.YtpmhmippoefcfaaGreatDoorB04
import Derived.Test.YtpmhmippoefcfaaGreatDoorB05
import Derived.Test.YtpmhmippoefcfaaGreatDoorB06
import Derived.Test.YtpmhmippoefcfaaGreatDoorB07
import Derived.Test.YtpmhmippoefcfaaGreatDoorB08
import Derived.Test.YtpmhmippoefcfaaGreatDoorB09
import Derived.Test.YtpmhmippoefcfaaGreatDoorB10
import Derived.Test.YtpmhmippoefcfaaGreatDoorB12
import Derived.Test.YtpmhmippoefcfaaGreatDoorB13
import Derived.Test.YtpmhmippoefcfaaGreatDoorB14
import Derived.Test.YtpmhmippoefcfaaGreatDoorB17
import Derived.Test.YtpmhmippoefcfaaGreatDoorB24
import Derived.Test.YtpmhmippoefcfaaGreatDoorChangeThereE01
import Derived.Test.YtpmhmippoefcfaaGreatDoorChangeThereE02
namespace Go.Proofs.YtpmhmippoefcfaaGreatDoor
open Go.RowKit Go.Shelf
attribute [local go_sem ↓] Go.wp_at_zero Go.wp_at_succ
theorem rwalk_any (v : Value) (ms : List NodeM) (most room who fr : Int) (path : Str) (follow : Bool) (w : World) (hv : RdM w.heap.size v ms w) (hd : DskW ms) (hpl : path.length ≤ 10000) :
    Calls Tryz.prog 36 #[.agg #[v, .int .i64 most, .int .i64 room], .int .i64 who, .int .i64 fr, .string (bs path), .bool follow] w fun e w' => WalkIs (walkL (pl ms) who fr path follow) e w w' :=
  rwalk_R _ v ms most room who fr path follow w hv hd hpl rfl
set_option maxRecDepth 100000 in
set_option maxHeartbeats 4000000 in
theorem rnode_any (v : Value) (ms : List NodeM) (most room who fr : Int) (path : Str) (follow : Bool) (w : World) (hv : RdM w.heap.size v ms w) (hd : DskW ms) (hpl : path.length ≤ 10000) :
    Calls Tryz.prog 34 #[.agg #[v, .int .i64 most, .int .i64 room], .int .i64 who, .int .i64 fr, .string (bs path), .bool follow] w fun e w' => WNodeIs (walkL (pl ms) who fr path follow) e w w' := by
  obtain ⟨aod, capd, rfl, _, _⟩ := rdm_form hv
  have hb0 : Below w.heap.size w (w.alloc (.cells #[.slice aod ms.length capd, .int .i64 most, .int .i64 room] 32)) := (Below.refl _ w).alloc (Nat.le_refl _) _
  have HW := Lib.hid (rwalk_any (.slice aod ms.length capd) ms most room who fr path follow _ (rdm_keep hv hb0) hd hpl)
  obtain ⟨R, hR⟩ : ∃ R, R = walkL (pl ms) who fr path follow := ⟨_, rfl⟩
  rw [← hR] at HW ⊢
  clear hv hR
  obtain ⟨⟨sd, sn, si, ss⟩, n⟩ := R
  go_enter Tryz.func34, Tryz.ntmps34
  go_wp2_with fail
  refine HW.out.mono ?_
  rintro e w1 ⟨rfl, hb1⟩
  have HB1 := Lib.hid (ret_tr hb0 hb1)
  clear hb0 hb1
  by_cases h0 : n = 0
  · subst h0
    by_cases hm : si < 0
    · have hI : decide (si < 0) = true := by simpa using hm
      have HN : Hid (wnodeL (⟨sd, sn, si, ss⟩, 0) = (0, 2)) := Lib.hid (by unfold wnodeL; rw [if_neg (by simp), if_pos hm])
      clear hm
      go_wp2_with fail
      refine post_fresh1 ?_
      intro W5 hb5 hn5 hs5
      go_ret2
      exact ⟨by rw [HN.out]; rfl, ret_tr HB1.out hb5⟩
    · have hI : decide (si < 0) = false := by simpa using hm
      have HN : Hid (wnodeL (⟨sd, sn, si, ss⟩, 0) = (si, 0)) := Lib.hid (by unfold wnodeL; rw [if_neg (by simp), if_neg hm])
      clear hm
      go_wp2_with fail
      refine post_fresh1 ?_
      intro W5 hb5 hn5 hs5
      go_ret2
      exact ⟨by rw [HN.out]; rfl, ret_tr HB1.out hb5⟩
  · have hI : (n != 0) = true := by simpa using h0
    have HN : Hid (wnodeL (⟨sd, sn, si, ss⟩, n) = (0, n)) := Lib.hid (by unfold wnodeL; rw [if_pos h0])
    clear h0
    go_wp2_with fail
    refine post_fresh1 ?_
    intro W5 hb5 hn5 hs5
    go_ret2
    exact ⟨by rw [HN.out]; rfl, ret_tr HB1.out hb5⟩
end Go.Proofs.YtpmhmippoefcfaaGreatDoor
namespace Go.Proofs.YtpmhmippoefcfaaGreatDoor
open Go.RowKit Go.Shelf
theorem xrnode_g (X : Nat → Prop) (l : List NodeL) (hd : Dsk l) (a b who fr : Int) (path : Str) (follow : Bool) (hpl : path.length ≤ 10000) (v : Value) (W : World) (hg : GivesX X l v W) :
    Calls Tryz.prog 34 #[.agg #[v, .int .i64 a, .int .i64 b], .int .i64 who, .int .i64 fr, .string (bs path), .bool follow] W fun e w' => WNodeIs (walkL l who fr path follow) e W w' := by
  obtain ⟨m, rfl, h⟩ := hg.gives
  exact rnode_any v m a b who fr path follow W h (hd.w m rfl) hpl
end Go.Proofs.YtpmhmippoefcfaaGreatDoor
namespace Go.Proofs.YtpmhmippoefcfaaGreatDoor
/-- A disk with a name more. -/
structure MoreD (l l' : List NodeL) (d : Int) (nm : Str) (p : Int) : Prop where
  dir : ∀ i, dirE l i = 0 → dirE l' i = 0
  may : ∀ who i, dirE l i = 0 → mayAt l' who i = mayAt l who i
  look : ∀ i q, dirE l i = 0 → ¬ lookL l i q < 0 → lookL l' i q = lookL l i q
  node : ∀ i, gotB l i = true → (nodeL l' i).kind = (nodeL l i).kind ∧ (nodeL l' i).data = (nodeL l i).data
  new : lookL l' d nm = p
  pos : 0 ≤ p
theorem more_go_ways {l l' : List NodeL} {d : Int} {nm : Str} {p : Int} (hr : RightP l) (m : MoreD l l' d nm p) (who : Int) (sl : Bool) (h3 : (nodeL l' p).kind ≠ 3) (h2 : sl = true → (nodeL l' p).kind = 2) :
    ∀ i ps hops, (goW l who false sl i ps hops).2 = 0 → (goW l who false sl i ps hops).1.ino < 0 → (goW l who false sl i ps hops).1.dir = d → (goW l who false sl i ps hops).1.name = nm → goW l' who false sl i ps hops = (⟨d, nm, p, sl⟩, 0) := by
  refine go_ind l who false sl (fun i ps hops R => R.2 = 0 → R.1.ino < 0 → R.1.dir = d → R.1.name = nm → goW l' who false sl i ps hops = (⟨d, nm, p, sl⟩, 0)) ?_ ?_ ?_ ?_ ?_ ?_ ?_ ?_ ?_ ?_ ?_
  · intro i hops _ hi; exact absurd hi (show ¬ (0 : Int) < 0 by decide)
  · intro i hops q rest hd he; exact absurd he hd
  · intro i hops q rest _ _ he; cases he
  · intro i hops q hd hm hn _ _ e1 e2
    simp only at e1 e2
    subst e1 e2
    have hp := m.new
    rw [go_spot (m.dir i hd) ((m.may who i hd).trans hm) (by rw [hp]; have := m.pos; omega) (by rw [hp]; exact fun h => h3 h.1) rfl (by rw [hp]; exact fun h => h.2 (h2 h.1)), hp]
  · intro i hops q rest _ _ _ _ he; cases he
  · intro i hops q rest _ _ _ _ _ _ he; cases he
  · intro i hops q rest _ _ _ _ _ _ hx he; exact absurd he hx
  · intro i hops q rest R hd hm hn hk hc h8 hx ih he hi e1 e2
    have hl := m.look i q hd hn
    obtain ⟨n1, n2⟩ := m.node _ ((look_got hr hd q).2 hn)
    rw [go_link (m.dir i hd) ((m.may who i hd).trans hm) (by rw [hl]; exact hn) (by rw [hl, n1]; exact hk) hc h8 (by rw [hl, n2]; exact hx), hl, n2]
    exact ih he hi e1 e2
  · intro i hops q _ _ _ _ _ _ he; cases he
  · intro i hops q _ _ hn _ _ _ hi; exact absurd hi hn
  · intro i hops q rest R hd hm hn hk hrest ih he hi e1 e2
    have hl := m.look i q hd hn
    obtain ⟨n1, _⟩ := m.node _ ((look_got hr hd q).2 hn)
    rw [go_on (m.dir i hd) ((m.may who i hd).trans hm) (by rw [hl]; exact hn) (by rw [hl, n1]; exact hk) hrest, hl]
    exact ih he hi e1 e2
theorem more_walk {l l' : List NodeL} {s : SpotL} {p : Int} (hr : RightP l) {who fr : Int} {path : Str} (hw : walkL l who fr path false = (s, 0)) (hi : s.ino < 0) (m : MoreD l l' s.dir s.name p) (h3 : (nodeL l' p).kind ≠ 3) (h2 : s.slash = true → (nodeL l' p).kind = 2) :
    walkL l' who fr path false = (⟨s.dir, s.name, p, s.slash⟩, 0) := by
  unfold walkL at hw ⊢
  split at hw
  · rename_i hc
    have := congrArg Prod.snd hw
    exact absurd this hc
  · rename_i hc
    rw [if_neg hc]
    split at hw
    · rename_i hp
      split at hw
      · rename_i hd
        have := congrArg Prod.snd hw
        exact absurd this hd
      · rename_i hd
        have e := congrArg Prod.fst hw
        simp only at e
        rw [← e] at hi
        have := got_le (dir_got (Decidable.not_not.1 hd)).1
        simp only at hi
        omega
    · rename_i hp
      rw [if_neg hp]
      have hsl : s.slash = Lib.hasSuffix path [47] := by
        have : ∀ i ps hops, (goW l who false (Lib.hasSuffix path [47]) i ps hops).2 = 0 → (goW l who false (Lib.hasSuffix path [47]) i ps hops).1.slash = Lib.hasSuffix path [47] := by
          refine go_ind l who false _ (fun i ps hops R => R.2 = 0 → R.1.slash = Lib.hasSuffix path [47]) ?_ ?_ ?_ ?_ ?_ ?_ ?_ ?_ ?_ ?_ ?_
          · intro i hops _; rfl
          · intro i hops q rest hd he; exact absurd he hd
          · intro i hops q rest _ _ he; cases he
          · intro i hops q _ _ _ _; rfl
          · intro i hops q rest _ _ _ _ he; cases he
          · intro i hops q rest _ _ _ _ _ _ he; cases he
          · intro i hops q rest _ _ _ _ _ _ hx he; exact absurd he hx
          · intro i hops q rest R _ _ _ _ _ _ _ ih; exact ih
          · intro i hops q _ _ _ _ _ _ he; cases he
          · intro i hops q _ _ _ _ _ _; rfl
          · intro i hops q rest R _ _ _ _ _ ih; exact ih
        have h1 := this (firstAt fr path) (parts path) 0
        rw [hw] at h1
        exact h1 rfl
      have h1 := more_go_ways hr m who (Lib.hasSuffix path [47]) h3 (by rw [← hsl]; exact h2) (firstAt fr path) (parts path) 0
      rw [hw] at h1
      rw [h1 rfl hi rfl rfl, hsl]
theorem dirE_nd {l : List NodeL} {k : Nat} : dirE l k = 0 ↔ (nd l k).kind = 2 := by
  constructor
  · intro h
    obtain ⟨hg, hk⟩ := dir_got h
    rw [nodeL_nd ((got_nd l k).1 hg)] at hk
    exact hk
  · intro h
    have h0 : (nd l k).kind ≠ 0 := by rw [h]; decide
    exact got_dir ((got_nd l k).2 h0) (by rw [nodeL_nd h0]; exact h)
theorem dir_nat {l : List NodeL} {i : Int} (h : dirE l i = 0) : ∃ k : Nat, i = k ∧ (nd l k).kind = 2 := by
  obtain ⟨k, e, _, _⟩ := got_nat (dir_got h).1
  subst e
  exact ⟨k, rfl, dirE_nd.1 h⟩
theorem enter_moreD {l l' : List NodeL} {d p : Nat} {nm : Nm} {n : NodeL} (hR : Rig l) (hk : (nd l d).kind = 2) (hpd : p ≠ d) (hpk : (nd l p).kind = 0) (hl : legalL nm = 0) (hf : findL (nd l d).names nm = none) (hnd : ∀ j, nd l' j = if j = d then putN (nd l d) nm p else if j = p then n else nd l j) :
    MoreD l l' d nm p := by
  have hs := (Rig.sorted hR d).2
  have h0 : ∀ j : Nat, (nd l j).kind ≠ 0 → (nd l' j).kind = (nd l j).kind ∧ (nd l' j).data = (nd l j).data ∧ (nd l' j).mode = (nd l j).mode ∧ (nd l' j).owner = (nd l j).owner ∧ (nd l' j).up = (nd l j).up := fun j hj => by
    rw [hnd]
    split
    · rename_i e; subst e; exact ⟨rfl, rfl, rfl, rfl, rfl⟩
    · rw [if_neg (by rintro rfl; exact hj hpk)]; exact ⟨rfl, rfl, rfl, rfl, rfl⟩
  have hdd : nm ≠ [46] ∧ nm ≠ [46, 46] := by
    constructor
    · rintro rfl; exact absurd hl (by decide)
    · rintro rfl; exact absurd hl (by decide)
  have hnl : ∀ j : Nat, (nd l j).kind ≠ 0 → nodeL l' j = nd l' j := fun j hj => nodeL_nd (by rw [(h0 j hj).1]; exact hj)
  have hkd : (nd l d).kind ≠ 0 := by rw [hk]; decide
  refine ⟨fun i hi => ?_, fun who i hi => ?_, fun i q hi hq => ?_, fun i hi => ?_, ?_, by omega⟩
  · obtain ⟨k, rfl, hk2⟩ := dir_nat hi
    exact dirE_nd.2 ((h0 k (by rw [hk2]; decide)).1.trans hk2)
  · obtain ⟨k, rfl, hk2⟩ := dir_nat hi
    have hk0 : (nd l k).kind ≠ 0 := by rw [hk2]; decide
    obtain ⟨_, _, a, b, _⟩ := h0 k hk0
    unfold mayAt
    rw [hnl k hk0, nodeL_nd hk0, a, b]
  · obtain ⟨k, rfl, hk2⟩ := dir_nat hi
    have hk0 : (nd l k).kind ≠ 0 := by rw [hk2]; decide
    unfold lookL at hq ⊢
    rw [hnl k hk0]
    rw [nodeL_nd hk0] at hq ⊢
    rw [(h0 k hk0).2.2.2.2]
    split
    · rfl
    · rename_i q1
      rw [if_neg q1] at hq
      split
      · rfl
      · rename_i q2
        rw [if_neg q2] at hq
        rw [hnd]
        split
        · rename_i e
          subst e
          have hqn : q ≠ nm := by
            rintro rfl
            rw [hf] at hq
            exact hq (show (-1 : Int) < 0 by decide)
          show (findL (putL (nd l k).names (nm, (p : Int))) q).getD (-1) = _
          rw [find_put_other hs _ _ _ hqn]
        · rw [if_neg (by rintro rfl; exact hk0 hpk)]
  · obtain ⟨k, rfl, _, hk0⟩ := got_nat hi
    rw [hnl k hk0, nodeL_nd hk0]
    exact ⟨(h0 k hk0).1, (h0 k hk0).2.1⟩
  · unfold lookL
    rw [if_neg hdd.1, if_neg hdd.2, hnl d hkd, hnd, if_pos rfl]
    show (findL (putL (nd l d).names (nm, (p : Int))) nm).getD (-1) = p
    rw [find_put]
    rfl
/-- What was entered: where it is, and what the disk is. -/
structure Entered (l l' : List NodeL) (who fr : Int) (path : Str) (s : SpotL) (d p : Nat) (n : NodeL) : Prop where
  sd : s.dir = d
  dk : (nd l d).kind = 2
  p0 : p ≠ 0
  pd : p ≠ d
  pk : (nd l p).kind = 0
  leg : legalL s.name = 0
  fn : findL (nd l d).names s.name = none
  si : s.ino = -1
  nds : ∀ j, nd l' j = if j = d then putN (nd l d) s.name p else if j = p then n else nd l j
  rig : Rig l'
  walk : walkL l' who fr path false = (⟨s.dir, s.name, p, s.slash⟩, 0)
  wr : writesL l who d = true
  len : l.length ≤ l'.length ∧ l'.length ≤ l.length + 1
theorem entered_of {l : List NodeL} {most room who fr : Int} (h : rightR l most room = true) {path : Str} {s : SpotL} (hw : walkL l who fr path false = (s, 0)) {n : NodeL} (hnk : n.kind = 1 ∨ n.kind = 2) (hn : LocOk (ownN n who)) (hnm : n.names = []) (hup : n.kind = 2 → n.up = s.dir) (hsl : s.slash = true → n.kind = 2)
    (hE : (enterL l most room who s n).2.2 = 0) : ∃ d p : Nat, Entered l (enterL l most room who s n).1 who fr path s d p (ownN n who) ∧ (enterL l most room who s n).2.1 = p := by
  have hr := right_RP h
  obtain ⟨hR, _⟩ := Rig.of hr
  have hs : SpotW l s := by
    have := walk_spot hr (who := who) (fr := fr) (p := path) (f := false) (by rw [hw])
    rw [hw] at this
    exact this
  have hnk0 : n.kind ≠ 0 := by omega
  have hF : freeE l who s = 0 := by
    refine Decidable.byContradiction fun hF => ?_
    unfold enterL at hE
    rw [if_pos hF] at hE
    exact hF hE
  have hA : addE l most room (ownN n who) = 0 := by
    refine Decidable.byContradiction fun hA => ?_
    unfold enterL at hE
    rw [if_neg (by rw [hF]; simp), if_pos hA] at hE
    exact hA hE
  obtain ⟨d, p, hd, hk, _, hp0, hpd, hpk, hleg, hfn, hino, hnd, hRig, heq, ⟨l1, l2, _⟩, _⟩ := enter_rig hr hs hnk0 hn hnm hup hF hA
  have hm := enter_moreD hR hk hpd hpk hleg hfn hnd
  have hpn : nodeL (enterL l most room who s n).1 p = ownN n who := by
    rw [nodeL_nd (by rw [hnd, if_neg hpd, if_pos rfl]; exact hnk0), hnd, if_neg hpd, if_pos rfl]
  have hkn : (nodeL (enterL l most room who s n).1 p).kind = n.kind := by rw [hpn]; rfl
  have hw' := more_walk hr hw (by omega) (l' := (enterL l most room who s n).1) (p := p) (by rw [hd]; exact hm) (by rw [hkn]; omega) (by rw [hkn]; exact hsl)
  have hwr : writesL l who d = true := by
    unfold freeE at hF
    rw [if_neg (by omega), hd] at hF
    split at hF
    · cases hF
    · split at hF
      · cases hF
      · rename_i hc; exact Bool.not_eq_false _ ▸ hc
  exact ⟨d, p, ⟨hd, hk, hp0, hpd, hpk, hleg, hfn, hino, hnd, hRig, hw', hwr, ⟨l1, l2⟩⟩, by rw [heq]⟩
/-- What was entered is lost again: all is as it was. -/
theorem entered_lost {l l' : List NodeL} {who fr : Int} {path : Str} {s : SpotL} {d p : Nat} {n : NodeL} (hR : Rig l) (e : Entered l l' who fr path s d p (ownN n who)) (hnk : n.kind ≠ 0) (hnm : n.names = []) (ho : n.opn = 0) :
    (∀ j, nd (lostL l' ⟨s.dir, s.name, p, s.slash⟩) j = nd l j) ∧ (lostL l' ⟨s.dir, s.name, p, s.slash⟩).length = l'.length := by
  have hd' : nd l' d = putN (nd l d) s.name p := by rw [e.nds, if_pos rfl]
  have hp' : nd l' p = ownN n who := by rw [e.nds, if_neg e.pd, if_pos rfl]
  obtain ⟨_, _, b3, _, b5, _⟩ := lost_rig (s := ⟨s.dir, s.name, p, s.slash⟩) e.rig e.sd (y := p) (by rw [hd']; exact e.dk) rfl (by rw [hd']; exact find_put _ _ _) e.p0 (by rw [hp']; exact hnk) (fun h => h) (fun _ => by rw [hp']; exact hnm) (fun _ h => h.elim)
  refine ⟨fun j => ?_, b5⟩
  rw [b3]
  split
  · rename_i ej
    subst ej
    rw [hd']
    unfold dropN putN
    simp only
    rw [drop_put (Rig.sorted hR j).2, drop_none e.fn]
  · split
    · rename_i ej
      subst ej
      rw [hp', hR.zero j e.pk]
      unfold leftN
      rw [if_pos ⟨by show (1 : Int) - 1 ≤ 0; decide, by show n.opn ≤ 0; omega⟩]
    · rename_i e1 e2
      rw [e.nds, if_neg e1, if_neg e2]
/-- The file that was made is unlinked. -/
theorem back_file {l : List NodeL} {most room who fr : Int} (h : rightR l most room = true) (path : Str) (mode : Int) (hE : (mkfileL l most room who fr path mode).2.2 = 0) :
    (unlinkL (mkfileL l most room who fr path mode).1 who fr path).2 = 0 ∧ (∀ j, nd (unlinkL (mkfileL l most room who fr path mode).1 who fr path).1 j = nd l j) ∧ (unlinkL (mkfileL l most room who fr path mode).1 who fr path).1.length = (mkfileL l most room who fr path mode).1.length ∧ l.length ≤ (mkfileL l most room who fr path mode).1.length ∧ (mkfileL l most room who fr path mode).1.length ≤ l.length + 1
      ∧ (∃ p : Nat, (mkfileL l most room who fr path mode).2.1 = p ∧ wnodeL (walkL (mkfileL l most room who fr path mode).1 who fr path false) = ((p : Int), 0) ∧ (nd (mkfileL l most room who fr path mode).1 p) = ownN (fileN mode) who)
      ∧ (∀ m, mkfileL (mkfileL l most room who fr path mode).1 most room who fr path m = ((mkfileL l most room who fr path mode).1, 0, 3)) ∧ (∀ m, mkdirL (mkfileL l most room who fr path mode).1 most room who fr path m = ((mkfileL l most room who fr path mode).1, 3)) := by
  obtain ⟨hR, _⟩ := Rig.of (right_RP h)
  obtain ⟨⟨s, e⟩, hW⟩ : ∃ R, walkL l who fr path false = R := ⟨_, rfl⟩
  unfold mkfileL at hE
  rw [hW] at hE
  split at hE
  · rename_i hc; exact absurd hE hc
  · rename_i hc
    have he : e = 0 := Decidable.not_not.1 hc
    subst he
    split at hE
    · cases hE
    · rename_i hsl
      have hs := walk_spot (right_RP h) (who := who) (fr := fr) (p := path) (f := false) (by rw [hW])
      rw [hW] at hs
      have hneg : s.ino < 0 := by
        refine Decidable.byContradiction fun hn => ?_
        have hF : freeE l who s = 3 := by unfold freeE; rw [if_pos (by omega)]
        unfold enterL at hE
        rw [if_pos (by rw [hF]; decide), hF] at hE
        cases hE
      have hslf : s.slash = false := by
        cases hb : s.slash with
        | false => rfl
        | true => exact absurd ⟨hb, hneg⟩ hsl
      obtain ⟨d, p, en, hp⟩ := entered_of h hW (n := fileN mode) (.inl rfl) (file_loc mode who) rfl (fun h => by cases h) (fun h => by rw [hslf] at h; cases h) hE
      have hmk : mkfileL l most room who fr path mode = enterL l most room who s (fileN mode) := by
        unfold mkfileL
        rw [hW, if_neg (by simp), if_neg hsl]
      rw [hmk]
      generalize enterL l most room who s (fileN mode) = X at *
      obtain ⟨l', i, f⟩ := X
      simp only at en hp hE
      subst hp hE
      simp only
      have hd' : nd l' d = putN (nd l d) s.name p := by rw [en.nds, if_pos rfl]
      have hp' : nd l' p = ownN (fileN mode) who := by rw [en.nds, if_neg en.pd, if_pos rfl]
      have hpn : nodeL l' p = ownN (fileN mode) who := by rw [nodeL_nd (by rw [hp']; show (1 : Int) ≠ 0; decide), hp']
      have hkd : (nd l' d).kind ≠ 0 := by rw [hd']; show (nd l d).kind ≠ 0; rw [en.dk]; decide
      have hwr : writesL l' who d = true := by
        have := en.wr
        unfold writesL at this ⊢
        rw [nodeL_nd hkd, hd']
        rwa [nodeL_nd (by rw [en.dk]; decide)] at this
      have hul : unlinkL l' who fr path = (lostL l' ⟨s.dir, s.name, p, s.slash⟩, 0) := by
        unfold unlinkL
        rw [en.walk]
        have ht : thereE ((⟨s.dir, s.name, (p : Int), s.slash⟩ : SpotL), (0 : Int)) = 0 := by
          unfold thereE
          rw [if_neg (by simp), if_neg (by show ¬ (p : Int) < 0; omega)]
        simp only [ht]
        rw [if_neg (by decide), hpn, if_neg (by show ¬ (1 : Int) = 2; decide), en.sd, if_neg (by rw [hwr]; decide)]
      obtain ⟨z1, z2⟩ := entered_lost (n := fileN mode) hR en (by show (1 : Int) ≠ 0; decide) rfl rfl
      rw [hul]
      have hF3 : ∀ s' : SpotL, s'.ino = p → freeE l' who s' = 3 := fun s' hs' => by unfold freeE; rw [if_pos (by omega)]
      refine ⟨rfl, z1, z2, en.len.1, en.len.2, ⟨p, rfl, ?_, hp'⟩, fun m => ?_, fun m => ?_⟩
      · rw [en.walk]
        unfold wnodeL
        rw [if_neg (by simp), if_neg (by show ¬ (p : Int) < 0; omega)]
      · unfold mkfileL
        rw [en.walk]
        simp only
        rw [if_neg (by decide), if_neg (by rintro ⟨_, h⟩; omega)]
        unfold enterL
        rw [hF3 _ rfl, if_pos (by decide)]
      · unfold mkdirL
        rw [en.walk]
        simp only
        rw [if_neg (by decide)]
        unfold enterL
        rw [hF3 _ rfl, if_pos (by decide)]
end Go.Proofs.YtpmhmippoefcfaaGreatDoor
namespace Go.Proofs.YtpmhmippoefcfaaGreatDoor
/-- A disk with a name less. -/
structure LessD (l l' : List NodeL) (d : Int) (nm : Str) : Prop where
  dir : ∀ i, dirE l i = 0 → dirE l' i = 0
  may : ∀ who i, dirE l i = 0 → mayAt l' who i = mayAt l who i
  look : ∀ i q, dirE l i = 0 → ¬ (i = d ∧ q = nm) → lookL l' i q = lookL l i q
  node : ∀ i q, dirE l i = 0 → ¬ (i = d ∧ q = nm) → ¬ lookL l i q < 0 → (nodeL l' (lookL l i q)).kind = (nodeL l (lookL l i q)).kind ∧ (nodeL l' (lookL l i q)).data = (nodeL l (lookL l i q)).data
  gone : lookL l' d nm < 0
  nm0 : nm ≠ []
theorem gone_ways {l l' : List NodeL} {d : Int} {nm : Str} (m : LessD l l' d nm) (who : Int) (sl : Bool) :
    ∀ i ps hops, (goW l who false sl i ps hops).2 = 0 → (goW l who false sl i ps hops).1.dir = d → (goW l who false sl i ps hops).1.name = nm → wnodeL (goW l' who false sl i ps hops) = (0, 2) := by
  have hend : ∀ i q rest hops, dirE l i = 0 → mayAt l who i = true → i = d ∧ q = nm → wnodeL (goW l' who false sl i (q :: rest) hops) = (0, 2) := by
    rintro i q rest hops hd hm ⟨rfl, rfl⟩
    have hg := m.gone
    by_cases hr : rest = []
    · rw [go_none1 (m.dir i hd) ((m.may who i hd).trans hm) hg hr]; rfl
    · rw [go_none2 (m.dir i hd) ((m.may who i hd).trans hm) hg hr]; rfl
  refine go_ind l who false sl (fun i ps hops R => R.2 = 0 → R.1.dir = d → R.1.name = nm → wnodeL (goW l' who false sl i ps hops) = (0, 2)) ?_ ?_ ?_ ?_ ?_ ?_ ?_ ?_ ?_ ?_ ?_
  · intro i hops _ _ e; exact absurd e.symm m.nm0
  · intro i hops q rest hd he; exact absurd he hd
  · intro i hops q rest _ _ he; cases he
  · intro i hops q hd hm _ _ e1 e2; exact hend i q [] hops hd hm ⟨e1, e2⟩
  · intro i hops q rest _ _ _ _ he; cases he
  · intro i hops q rest _ _ _ _ _ _ he; cases he
  · intro i hops q rest _ _ _ _ _ _ hx he; exact absurd he hx
  · intro i hops q rest R hd hm hn hk hc h8 hx ih he e1 e2
    by_cases hq : i = d ∧ q = nm
    · exact hend i q rest hops hd hm hq
    · have hl := m.look i q hd hq
      obtain ⟨n1, n2⟩ := m.node i q hd hq hn
      rw [go_link (m.dir i hd) ((m.may who i hd).trans hm) (by rw [hl]; exact hn) (by rw [hl, n1]; exact hk) hc h8 (by rw [hl, n2]; exact hx), hl, n2]
      exact ih he e1 e2
  · intro i hops q _ _ _ _ _ _ he; cases he
  · intro i hops q hd hm _ _ _ _ e1 e2; exact hend i q [] hops hd hm ⟨e1, e2⟩
  · intro i hops q rest R hd hm hn hk hrest ih he e1 e2
    by_cases hq : i = d ∧ q = nm
    · exact hend i q rest hops hd hm hq
    · have hl := m.look i q hd hq
      obtain ⟨n1, _⟩ := m.node i q hd hq hn
      rw [go_on (m.dir i hd) ((m.may who i hd).trans hm) (by rw [hl]; exact hn) (by rw [hl, n1]; exact hk) hrest, hl]
      exact ih he e1 e2
theorem gone_walk {l l' : List NodeL} {s : SpotL} {who fr : Int} {path : Str} (hw : walkL l who fr path false = (s, 0)) (m : LessD l l' s.dir s.name) : wnodeL (walkL l' who fr path false) = (0, 2) := by
  unfold walkL at hw ⊢
  split at hw
  · rename_i hc
    exact absurd (congrArg Prod.snd hw) hc
  · rename_i hc
    rw [if_neg hc]
    split at hw
    · rename_i hp
      split at hw
      · rename_i hd
        exact absurd (congrArg Prod.snd hw) hd
      · have e := congrArg Prod.fst hw
        simp only at e
        exact absurd (by rw [← e]) m.nm0
    · rename_i hp
      rw [if_neg hp]
      have h1 := gone_ways m who (Lib.hasSuffix path [47]) (firstAt fr path) (parts path) 0
      rw [hw] at h1
      exact h1 rfl rfl rfl
/-- What is lost of no directory is a name less. -/
theorem lost_less {l : List NodeL} (hr : RightP l) {s : SpotL} {d y : Nat} (hs : SpotW l s) (hd : s.dir = d) (hk : (nd l d).kind = 2) (hy : s.ino = y) (hyk : (nd l y).kind ≠ 0) (hy2 : (nd l y).kind ≠ 2) (hdt : dotsB s.name = false) : LessD l (lostL l s) s.dir s.name := by
  obtain ⟨hR, _⟩ := Rig.of hr
  obtain ⟨hleg, y', hy', hf, hy0, _⟩ := spot_old hr hs (by omega) hdt hd hk
  have : y' = y := by omega
  subst this
  obtain ⟨hyd, _, b3, _, _, _, b7, hR'⟩ := lost_rig hR hd hk hy hf hy0 hyk (fun h => h) (fun h => absurd h hy2) (fun _ h => h.elim)
  generalize lostL l s = l' at *
  have hdt' := hdt
  unfold dotsB at hdt'
  simp only [Bool.or_eq_false_iff, decide_eq_false_iff_not] at hdt'
  have hkd : ∀ j : Nat, (nd l j).kind = 2 → (nd l' j).kind = 2 ∧ (nd l' j).up = (nd l j).up ∧ (nd l' j).mode = (nd l j).mode ∧ (nd l' j).owner = (nd l j).owner := fun j hj => by
    have hjy : j ≠ y' := by rintro rfl; exact hy2 hj
    obtain ⟨a, b⟩ := b7 j hjy
    refine ⟨a.trans hj, b, ?_⟩
    rw [b3]
    split
    · rename_i e; subst e; exact ⟨rfl, rfl⟩
    · exact ⟨rfl, rfl⟩
  have hnl : ∀ j : Nat, (nd l j).kind = 2 → nodeL l' j = nd l' j ∧ nodeL l j = nd l j := fun j hj => ⟨nodeL_nd (by rw [(hkd j hj).1]; decide), nodeL_nd (by rw [hj]; decide)⟩
  have hlook : ∀ i q, dirE l i = 0 → ¬ (i = s.dir ∧ q = s.name) → lookL l' i q = lookL l i q := fun i q hi hq => by
    obtain ⟨k, rfl, hk2⟩ := dir_nat hi
    obtain ⟨n1, n2⟩ := hnl k hk2
    unfold lookL
    rw [n1, n2, (hkd k hk2).2.1]
    split
    · rfl
    · split
      · rfl
      · rw [b3]
        split
        · rename_i e
          subst e
          have hqn : q ≠ s.name := fun e => hq ⟨hd.symm, e⟩
          show (findL (dropL (nd l k).names s.name) q).getD (-1) = _
          rw [find_drop_other _ _ _ hqn]
        · rw [if_neg (by rintro rfl; exact hy2 hk2)]
  refine ⟨fun i hi => ?_, fun who i hi => ?_, hlook, fun i q hi hq hn => ?_, ?_, hdt'.1.1⟩
  · obtain ⟨k, rfl, hk2⟩ := dir_nat hi
    exact dirE_nd.2 (hkd k hk2).1
  · obtain ⟨k, rfl, hk2⟩ := dir_nat hi
    obtain ⟨n1, n2⟩ := hnl k hk2
    unfold mayAt
    rw [n1, n2, (hkd k hk2).2.2.1, (hkd k hk2).2.2.2]
  · obtain ⟨j, ej, _, hj0⟩ := got_nat ((look_got hr hi q).2 hn)
    have hl := hlook i q hi hq
    rw [ej] at hl
    -- the node is there still
    have hj' : (nd l' j).kind ≠ 0 := by
      by_cases hjy : j = y'
      · subst hjy
        obtain ⟨k, rfl, hk2⟩ := dir_nat hi
        obtain ⟨n1, n2⟩ := hnl k hk2
        unfold lookL at hl
        split at hl
        · rename_i q1
          have : k = j := by omega
          subst this
          exact absurd hk2 hy2
        · split at hl
          · rename_i q1 q2
            rw [n1, (hkd k hk2).2.1] at hl
            have := right_up hr hi
            rw [n2, hl] at this
            exact absurd (dirE_nd.1 this) hy2
          · rw [n1] at hl
            cases hf2 : findL (nd l' k).names q with
            | none => rw [hf2] at hl; simp only [Option.getD_none] at hl; omega
            | some i' =>
              rw [hf2] at hl
              obtain ⟨j', e1, _, e2⟩ := hR'.nam k _ (findL_mem hf2)
              simp only [Option.getD_some] at hl e1
              have : j' = j := by omega
              subst this
              exact e2
      · rw [(b7 j hjy).1]; exact hj0
    rw [ej, nodeL_nd hj', nodeL_nd hj0]
    rw [b3] at hj' ⊢
    split
    · rename_i e; subst e; exact ⟨rfl, rfl⟩
    · rename_i e1
      rw [if_neg e1] at hj'
      split
      · rename_i e2
        subst e2
        rw [if_pos rfl] at hj'
        have : leftN (nd l j) = lessN (nd l j) := by
          unfold leftN at hj' ⊢
          split
          · rename_i hc; rw [if_pos hc] at hj'; exact absurd rfl hj'
          · rfl
        rw [this]
        exact ⟨rfl, rfl⟩
      · exact ⟨rfl, rfl⟩
  · rw [hd]
    unfold lookL
    rw [if_neg hdt'.1.2, if_neg hdt'.2, (hnl d hk).1, b3, if_pos rfl]
    show (findL (dropL (nd l d).names s.name) s.name).getD (-1) < 0
    rw [find_drop]
    decide
/-- What was unlinked is not there any more. -/
theorem gone_file {l : List NodeL} {most room who fr : Int} (h : rightR l most room = true) (path : Str) (hE : (unlinkL l who fr path).2 = 0) : wnodeL (walkL (unlinkL l who fr path).1 who fr path false) = (0, 2) := by
  unfold unlinkL at hE ⊢
  split at hE
  · rename_i hc; exact absurd hE hc
  · rename_i ht
    rw [if_neg ht]
    obtain ⟨hw, hi⟩ := there_zero (Decidable.not_not.1 ht)
    split at hE
    · cases hE
    · rename_i h2
      rw [if_neg h2]
      split at hE
      · cases hE
      · rename_i hwr
        rw [if_neg hwr]
        have hr := right_RP h
        have hs := walk_spot hr hw
        obtain ⟨d, hd, hk⟩ := spot_dir hs
        obtain ⟨y, hy, _, hyk⟩ := got_nat ((walk_ino hr who fr path false hw).resolve_left (by omega))
        rw [hy, nodeL_nd hyk] at h2
        have hdt := spot_nodir h hs hy hyk h2
        exact gone_walk (s := (walkL l who fr path false).1) (by rw [← hw]) (lost_less hr hs hd hk hy hyk h2 hdt)
end Go.Proofs.YtpmhmippoefcfaaGreatDoor
namespace Go.Proofs.YtpmhmippoefcfaaGreatDoor
section
variable {a c : Nat} {l : List NodeL} (h : Siz a c l) (most room who fr : Int) (path : Str)
include h
theorem siz_mkfile (mode : Int) : Siz (a + 1) (2 * c + 1) (mkfileL l most room who fr path mode).1 := by
  unfold mkfileL
  split
  · exact siz_same h
  · split
    · exact siz_same h
    · exact h.enter ⟨Nat.zero_le _, Nat.zero_le _⟩ _ _ _ _
theorem siz_unlink : Siz (a + 1) (2 * c + 1) (unlinkL l who fr path).1 := by
  unfold unlinkL
  repeat' split
  all_goals first | exact siz_same h | exact siz_same (h.lost _)
end
end Go.Proofs.YtpmhmippoefcfaaGreatDoor
namespace Go.Proofs.YtpmhmippoefcfaaGreatDoor
open Go.RowKit Go.Shelf
section
variable {l : List NodeL} {most room : Int} (h : rightQ l most room = true) (who fr : Int) (path : Str)
include h
theorem q_aft : Aft l most room := ⟨q_right h, q_dsk h⟩
theorem aft_mkfile (mode : Int) : Aft (mkfileL l most room who fr path mode).1 most room := aft_of (right_mkfile (q_right h) who fr path mode) (siz_mkfile (q_siz h) most room who fr path mode)
theorem aft_unlink : Aft (unlinkL l who fr path).1 most room := aft_of (right_unlink (q_right h) who fr path) (siz_unlink (q_siz h) who fr path)
end
end Go.Proofs.YtpmhmippoefcfaaGreatDoor
namespace Go.Proofs.YtpmhmippoefcfaaGreatDoor
open Go.RowKit Go.Shelf
attribute [local go_sem ↓] Go.wp_at_zero Go.wp_at_succ
theorem its_f (l : List NodeL) (a b : Int) (hl : l.length ≤ 10000) (hnl : ∀ n ∈ l, n.names.length ≤ 10000) (v : Value) (W : World) (hg : GivesN l v W) :
    Calls Tryz.prog 13 #[.agg #[v, .int .i64 a, .int .i64 b]] W fun e w' => ∃ ao cap, e = .returned (diskV ao l.length cap a b) ∧ GivesN l (.slice ao l.length cap) w' ∧ Below W.heap.size W w' := by
  refine (its_g l a b hl hnl v W hg).mono ?_
  rintro e w' ⟨v', rfl, h1, h2⟩
  obtain ⟨ao, cap, rfl⟩ := gives_form (gives_no h1)
  exact ⟨ao, cap, rfl, h1, h2⟩
end Go.Proofs.YtpmhmippoefcfaaGreatDoor
