/-
  The program's enter.
-/
import Derived.RangeFuncNested
import Derived.RangeFuncBound
import Derived.RangeFuncCalls
import Derived.RangeFuncLeaves
import Derived.RangeFuncBox
import Derived.Shelf.Abstract
import Derived.Shelf.RegionOpen
import Derived.WalkKit
import Derived.OwnWalkIn
import Derived.TacticsInMore
import Derived.LoopNIn
import Derived.LoopIn
import Derived.Lib.Hide
import Derived.Outline
import Derived.Deep.QuietTactic
import Derived.Deep.AppendLies
import Derived.BigQuiet
import Derived.Lib.Strings
import Derived.WalkSmall
import Derived.Shelf.Small.Strs
import Derived.Shelf.Strings.Search1
import Derived.Shelf.Strings.Prefix
import Derived.Laws.AppendOwn
import Derived.Laws.OwnMore
import Derived.Laws.AppendOwnNone
import Derived.WideShapes
import Derived.Lib.TrimByte
import Derived.Lib.Bytealg
import Derived.Lib.QuietBelow
import Derived.Deep.DrawnRows
import Derived.Laws.Cover1
import Derived.WalkMore
import Derived.Shelf.Spec.SlicesGrow
import Derived.StillTailTactics
import Derived.Laws.BitsLemmas
import Derived.Laws.RangeAny
import Derived.Laws.Runes
import Derived.Lib.Builder
import Derived.Deep.WholeRow
import Derived.Lib.OthersKept
import Derived.Shelf.SlSorted.Search
import Derived.LaidEql
import Derived.Stop.Asserts
import Derived.RowKitTokens
import Derived.Deep.RegionHeld3
import Derived.Deep.RegionLaw
import Derived.Handy
import Derived.Laws.IdiomCopy
import Derived.Lib.SliceRun
import Derived.Laws.ResultCell
import Derived.Deep.LoopGhost
import Derived.Deep.DeepCutAuto
import Derived.Deep.MidRow
import Derived.BigRegion
import Derived.Test.YtpmhmippoefcfaaGreatDoorProg
import Derived.Test.YtpmhmippoefcfaaGreatDoorShelf
import Derived.Test.YtpmhmippoefcfaaGreatDoorB01
import Derived.Test.YtpmhmippoefcfaaGreatDoorB02
import Derived.Test.YtpmhmippoefcfaaGreatDoorB04
import Derived.Test.YtpmhmippoefcfaaGreatDoorB05
import Derived.Test.YtpmhmippoefcfaaGreatDoorB06
import Derived.Test.YtpmhmippoefcfaaGreatDoorB07
import Derived.Test.YtpmhmippoefcfaaGreatDoorB08
import Derived.Test.YtpmhmippoefcfaaGreatDoorB12
import Derived.Test.YtpmhmippoefcfaaGreatDoorB13
import Derived.Test.YtpmhmippoefcfaaGreatDoorB14
import Derived.Test.YtpmhmippoefcfaaGreatDoorB16
import Derived.Test.YtpmhmippoefcfaaGreatDoorB17
import Derived.Test.YtpmhmippoefcfaaGreatDoorB18
import Derived.Test.YtpmhmippoefcfaaGreatDoorB19
namespace Go.Proofs.YtpmhmippoefcfaaGreatDoor
open Go.RowKit Go.Shelf
attribute [local go_sem ↓] Go.wp_at_zero Go.wp_at_succ
/-- A node that is to be named: what it owns. -/
def penN (n : NodeL) (who dir : Int) : NodeL := ⟨n.kind, n.mode, who, 1, n.opn, if n.kind = 2 then dir else n.up, n.data, n.names⟩
def penterL (l : List NodeL) (most room who : Int) (path : Str) (R : ResL) (n : NodeL) : MakL :=
  if R.2 ≠ 0 then (l, 0, R.2) else if toEnterE (placeOf l who path R) n.kind ≠ 0 then (l, 0, toEnterE (placeOf l who path R) n.kind)
  else if addE l most room (penN n who R.1.dir) ≠ 0 then (l, 0, addE l most room (penN n who R.1.dir))
  else (namedL (addL l most room (penN n who R.1.dir)) R.1 (addI l most room (penN n who R.1.dir)), addI l most room (penN n who R.1.dir), 0)
theorem penter_at {l : List NodeL} {most room who : Int} {path : Str} {R : ResL} {n : NodeL} {e t : Int} {p : PlaceL} (he : e = R.2) (hp : p = placeOf l who path R) (ht : t = toEnterE p n.kind) :
    penterL l most room who path R n = if e ≠ 0 then (l, 0, e) else if t ≠ 0 then (l, 0, t) else if addE l most room (penN n who R.1.dir) ≠ 0 then (l, 0, addE l most room (penN n who R.1.dir))
      else (namedL (addL l most room (penN n who R.1.dir)) R.1 (addI l most room (penN n who R.1.dir)), addI l most room (penN n who R.1.dir), 0) := by
  subst he; subst hp; subst ht; rfl
theorem toenter_any {S : Nat → Addr} (p : PlaceL) (vd vn : Value) (k : Int) (w : World) (hk : k = 1 ∨ k = 2 ∨ k = 3) (hs : Sent S w) : Calls Tryz.prog 83 #[.agg (pcells p vd vn), .int .i64 k] w fun e w' => TellsE S (toEnterE p k) e w w' := by
  rcases hk with rfl | rfl | rfl
  · exact toenter1_any p vd vn w hs
  · exact toenter2_any p vd vn w hs
  · exact toenter3_any p vd vn w hs
theorem code_set2 {P : Program} {a : Act} {w : World} {c : Code} {K : Exit → Act → World → Prop} {b i j : Nat} {u v : Value} {cs : Array Value} {t : TypeId} (hb : w.heap[b]? = some (.cells cs t (0, 0)))
    (h : ∀ W', Below b w W' → (∀ g, g ≠ b → W'.heap[g]? = w.heap[g]?) → W'.heap.size = w.heap.size → W'.heap[b]? = some (.cells ((cs.setIfInBounds i u).setIfInBounds j v) t (0, 0)) → c.wp P K a W') : c.wp P K a ((w.setCell ⟨b, i, none⟩ u).setCell ⟨b, j, none⟩ v).drew :=
  h _ (((Below.refl b w).setCell (p := ⟨b, i, none⟩) (Nat.le_refl _) u).setCell (p := ⟨b, j, none⟩) (Nat.le_refl _) v).drew (fun g hg => (Below.heap_setCell _ _ _ g hg).trans (Below.heap_setCell _ _ _ g hg)) (by simp [World.setCell, World.drew]) (heap_set (W := w.setCell ⟨b, i, none⟩ u) (heap_set hb))
theorem Ord.add {l : List NodeL} (h : Dsk l) {n : NodeL} (hn : SmallN n) (hu : Up n.names) (most room : Int) : Ord (addL l most room n) := by
  have hs : Siz 111 130 (addL l most room n) := Siz.add (a := 110) (c := 130) ⟨h.sm.1, h.sm.2⟩ hn most room
  refine ⟨Nat.le_trans hs.1 (by decide), fun m hm => Nat.le_trans (hs.2 m hm).2 (by decide), fun m hm => ?_⟩
  have ho := h.ord.up
  unfold addL at hm
  split at hm
  · exact ho m hm
  · split at hm
    · rcases List.mem_append.1 hm with hm | hm
      · exact ho m hm
      · rw [List.mem_singleton] at hm; subst hm; exact hu
    · rcases List.mem_or_eq_of_mem_set hm with hm | rfl
      · exact ho m hm
      · exact hu
theorem put_small {l : List NodeL} (h : Dsk l) {n : NodeL} (hn : SmallN n) (most room : Int) (s : SpotL) (i : Int) : (putN (nodeL (addL l most room n) s.dir) s.name i).names.length ≤ 10000 := by
  have hs : Siz 111 130 (addL l most room n) := Siz.add (a := 110) (c := 130) ⟨h.sm.1, h.sm.2⟩ hn most room
  have h1 := put_len (nodeL (addL l most room n) s.dir).names (s.name, i)
  have h2 := (hs.node s.dir).2
  show (putL _ _).length ≤ 10000
  omega
set_option maxRecDepth 100000 in
set_option maxHeartbeats 4000000 in
theorem penter_g (X : Nat → Prop) {S : Nat → Addr} (l : List NodeL) (most room who fr : Int) (path : Str) (m : NodeL) (ao aon_ : Option Addr) (cap capn_ : Nat) (w : World) (hX : Old X w) (hg : GivesX X l (.slice ao l.length cap) w) (hd : Dsk l) (hplpath : path.length ≤ 10000) (hs : Sent S w)
    (hn : NodeX X m (.slice aon_ m.names.length capn_) w) (hns : SmallN m) (hnu : Up m.names) (hnk : m.kind = 1 ∨ m.kind = 2 ∨ m.kind = 3) :
    Calls Tryz.prog 43 #[diskV ao l.length cap most room, asV who fr, .string (bs path), nval m (.slice aon_ m.names.length capn_)] w fun e w' => MakIs X (penterL l most room who path (walkL l who fr path false) m) most room e w w' := by
  have S0 := Lib.hid (St.start (G := [(l, .slice ao l.length cap)]) (N := [(m, .slice aon_ m.names.length capn_)]) hX (one_g hg) (one_n hn))
  have HD := Lib.hid hd
  have HS := Lib.hid hs
  have HNS := Lib.hid hns
  have HNU := Lib.hid hnu
  have HNK := Lib.hid hnk
  have HRET : Hid (∀ (W : World) (cs : Array Value) (fr), W.heap[w.heap.size + 3]? = some (.cells cs 24 fr) → cs.size = 3 → ∀ tmps : Array Value, tmps.getD 8 undef = .pointer (some ⟨w.heap.size + 3, 0, none⟩) → (results Tryz.f43 tmps).run Tryz.prog W = .ok (.tuple #[.agg cs, tmps.getD 9 undef, tmps.getD 10 undef]) W) := Lib.hid fun W cs fr h hs tmps ht =>
  results_ctt (p := 8) (u := 9) (v := 10) (ty := 24) rfl tmps W (w.heap.size + 3) _ cs fr _ ht h Tryz.underlying24 rfl (by rw [hs]; kernel_rfl)
  clear hX hg hd hs hn hns hnu hnk
  go_enter Tryz.func43, Tryz.ntmps43
  go_upto_region 1 with (fail)
  refine code_fresh4 ?_
  intro W1 hb hA0 hA1 hA2 hA3 hs
  have S1 := Lib.hid (S0.out.new4 hb hA0 hA1 hA2 hA3)
  clear hb hA0 hA1 hA2 hA3 hs
  have h_d := (S1.out.at 0 rfl)
  have h_a := (S1.out.at 1 rfl)
  go_wp2_with (first | (refine wpList_load_row rfl 24 _ rfl _ rfl 24 _ (0, 0) _ h_d Tryz.underlying24 rfl (by kernel_rfl) ?_) | (refine wpList_load_row rfl 26 _ rfl _ rfl 26 _ (0, 0) _ h_a Tryz.underlying26 rfl (by kernel_rfl) ?_))
  refine (find_g _ l most room who fr path _ _ W1 S1.out.oldX (S1.out.g 0 rfl) HD.out hplpath (HS.out.keep S1.out.bel)).mono ?_
  rintro e W2 ⟨v, aod, capd, aon, capn, rfl, hv, hn1, hn2, hb⟩
  clear h_d h_a
  obtain ⟨p, hp⟩ : ∃ p, p = placeOf l who path (walkL l who fr path false) := ⟨_, rfl⟩
  obtain ⟨n, hn⟩ : ∃ n, n = (walkL l who fr path false).2 := ⟨_, rfl⟩
  rw [← hp] at hn1 hn2 ⊢
  rw [← hn] at hv
  have S2 := Lib.hid (((S1.out.call hb).addN hn1).addN hn2)
  clear hb hn1 hn2
  have HV := Lib.hid hv
  have HPp := Lib.hid hp
  have HNn := Lib.hid hn
  clear hp hn
  go_upto_region 2 with (first | (refine wpList_fresh1 ?_; intro W3 hb hn hs; have S3 := Lib.hid (S2.out.new1 hb hn); have h_p := S3.out.at 4 rfl; clear hb hn hs) | (refine wpList_store_row rfl 93 _ _ rfl _ rfl rfl h_p rfl (by kernel_rfl) rfl ?_; intro W4 hb hg hs hn; have S4 := Lib.hid (S3.out.set 4 rfl hb hg hs hn); clear hb hg hs hn))
  clear h_p
  obtain ⟨t, ht⟩ : ∃ t, t = toEnterE p m.kind := ⟨_, rfl⟩
  have HE := Lib.hid (penter_at (most := most) (room := room) (n := m) HNn.out HPp.out ht)
  have HT := Lib.hid ht
  clear ht
  rcases hv.form with ⟨h0, rfl⟩ | ⟨h0, q, c, rfl⟩
  · have HPI := Lib.hid (place_ino (l := l) (who := who) (path := path) (R := walkL l who fr path false) (HNn.out.symm.trans h0))
    rw [← HPp.out] at HPI
    subst h0
    have HE2 := Lib.hid (HE.out.trans (if_neg (by simp)))
    clear HE hv
    obtain ⟨n0, -, -, -, -, -, -, -⟩ := cells8 (S4.out.at 2 rfl)
    have h_p := (S4.out.at 4 rfl)
    go_wp2_with (first | (refine wpList_load_row rfl 93 _ rfl _ rfl 93 _ (0, 0) _ h_p Tryz.underlying93 rfl (by kernel_rfl) ?_))
    refine (toenter_any p _ _ m.kind W4 HNK.out (HS.out.keep S4.out.bel)).mono ?_
    rintro e W5 ⟨v2, rfl, hv2, hb⟩
    clear n0 h_p
    have S5 := Lib.hid (S4.out.call hb)
    clear hb
    rw [← HT.out] at hv2
    have HV2 := Lib.hid hv2
    rcases hv2.form with ⟨h1, rfl⟩ | ⟨h1, q, c, rfl⟩
    · subst h1
      have HE3 := Lib.hid (HE2.out.trans (if_neg (by simp)))
      clear HE2 hv2
      obtain ⟨a0, -⟩ := cells2 (S5.out.at 1 rfl)
      obtain ⟨n0, n1, n2, n3, n4, n5, n6, n7⟩ := cells8 (S5.out.at 2 rfl)
      have fn := fun j => Lib.frozen_of_heap (S5.out.at 2 rfl) j
      go_upto_region 6 with (fail)
      go_region
      go_upto_region 7 with (fail)
      refine code_set2 (S5.out.at 2 rfl) ?_
      intro W6 hb hg hs hn
      clear a0 n0 n1 n2 n3 n4 n5 n6 n7 fn
      have S6 := Lib.hid (S5.out.set 2 rfl hb hg hs hn)
      clear hb hg hs hn
      by_cases hk : m.kind = 2
      · have hK : (m.kind == 2) = true := by simpa using hk
        obtain ⟨n0, n1, n2, n3, n4, n5, n6, n7⟩ := cells8 (S6.out.at 2 rfl)
        have fn := fun j => Lib.frozen_of_heap (S6.out.at 2 rfl) j
        obtain ⟨-, -, p2, -, -, -, -, -, -, -, -, -, -, -, -, -, -, -, -, -, -, -⟩ := cells22 (S6.out.at 4 rfl)
        go_upto_region 9 with (fail)
        refine code_set1 (S6.out.at 2 rfl) ?_
        intro W7 hb hg hs hn
        clear n0 n1 n2 n3 n4 n5 n6 n7 fn p2
        have S7 := Lib.hid (S6.out.set 2 rfl hb hg hs hn)
        clear hb hg hs hn
        have HM : Hid (penN m who (walkL l who fr path false).1.dir = ⟨m.kind, m.mode, who, 1, m.opn, p.s.dir, m.data, m.names⟩) := Lib.hid (by unfold penN; rw [if_pos hk, ← HPI.out.1])
        have HMS : Hid (SmallN ⟨m.kind, m.mode, who, 1, m.opn, p.s.dir, m.data, m.names⟩) := Lib.hid HNS.out
        have HMU : Hid (Up (NodeL.names ⟨m.kind, m.mode, who, 1, m.opn, p.s.dir, m.data, m.names⟩)) := Lib.hid HNU.out
        clear hk
        rw [HM.out, ← HPI.out.1] at HE3
        have h_d := (S7.out.at 0 rfl)
        have h_n := (S7.out.at 2 rfl)
        go_wp2_with (first | (refine wpList_load_row rfl 24 _ rfl _ rfl 24 _ (0, 0) _ h_d Tryz.underlying24 rfl (by kernel_rfl) ?_) | (refine wpList_load_row rfl 63 _ rfl _ rfl 63 _ (0, 0) _ h_n Tryz.underlying63 rfl (by kernel_rfl) ?_))
        refine (add_g (n := ⟨m.kind, m.mode, who, 1, m.opn, p.s.dir, m.data, m.names⟩) _ l most room _ _ W7 S7.out.oldX (S7.out.g 0 rfl) HD.out.sm ((S7.out.n 0 rfl).same rfl) HMS.out).mono ?_
        rintro e W8 ⟨ao2, cap2, rfl, hg2, hb⟩
        clear h_d h_n
        have S8 := Lib.hid ((S7.out.call hb).addG hg2)
        clear hb hg2
        have HO := Lib.hid (Ord.add HD.out HMS.out HMU.out most room)
        have HPN := fun s i => put_small HD.out HMS.out most room s i
        generalize addL l most room ⟨m.kind, m.mode, who, 1, m.opn, p.s.dir, m.data, m.names⟩ = l2 at *
        generalize addI l most room ⟨m.kind, m.mode, who, 1, m.opn, p.s.dir, m.data, m.names⟩ = i2 at *
        generalize addE l most room ⟨m.kind, m.mode, who, 1, m.opn, p.s.dir, m.data, m.names⟩ = e2 at *
        go_upto_region 10 with (first | (refine wpList_fresh1 ?_; intro W9 hb hn hs; have S9 := Lib.hid (S8.out.new1 hb hn); have h_e := S9.out.at 5 rfl; clear hb hn hs) | (refine wpList_store_row rfl 24 _ _ rfl _ rfl rfl h_e rfl (by kernel_rfl) rfl ?_; intro W10 hb hg hs hn; have S10 := Lib.hid (S9.out.set 5 rfl hb hg hs hn); clear hb hg hs hn))
        clear h_e
        by_cases h1 : e2 = 0
        · subst h1
          have HE4 := Lib.hid (HE3.out.trans (if_neg (by simp)))
          clear HE3
          obtain ⟨pw, pp, ⟨sd, sn, si, ss⟩, pd, pn⟩ := p
          obtain ⟨-, -, p2, p3, p4, p5, -, -, -, -, -, -, -, -, -, -, -, -, -, -, -, -⟩ := cells22 (S10.out.at 4 rfl)
          have hm := rangeAt4 (o := 2) p2 p3 p4 p5
          clear p2 p3 p4 p5
          have h_e := (S10.out.at 5 rfl)
          go_wp2_with (first | (refine wpList_load_row rfl 24 _ rfl _ rfl 24 _ (0, 0) _ h_e Tryz.underlying24 rfl (by kernel_rfl) ?_) | (refine wpList_load_mid rfl 91 _ rfl _ 2 rfl _ _ hm Tryz.underlying91 rfl (by kernel_rfl) ?_))
          refine (cput_g _ l2 most room ⟨sd, sn, si, ss⟩ i2 _ _ W10 S10.out.oldX (S10.out.g 1 rfl) HO.out (HPN _ _)).mono ?_
          rintro e W11 ⟨ao3, cap3, rfl, hg3, hb⟩
          clear hm h_e
          have S11 := Lib.hid ((S10.out.call hb).addG hg3)
          clear hb hg3
          have h_r := (S11.out.at 3 rfl)
          go_wp2_with (first | (refine wpList_store_row rfl 24 _ _ rfl _ rfl rfl h_r rfl (by kernel_rfl) rfl ?_; intro W12 hb hg hs hn; have S12 := Lib.hid (S11.out.set 3 rfl hb hg hs hn); clear hb hg hs hn))
          refine bodyPost_ret (HRET.out _ _ _ (S12.out.at 3 rfl) rfl _ rfl) rfl ?_
          rw [HE4.out]
          exact ⟨_, _, rfl, S12.out.gX 2 rfl, S12.out.bel⟩
        · have hI : (e2 != 0) = true := by simpa using h1
          have HE4 := Lib.hid (HE3.out.trans (if_pos h1))
          have HB : Hid (e2 ≠ 0) := Lib.hid h1
          clear HE3 h1
          go_upto_region 11 with (fail)
          have h_d := (S10.out.at 0 rfl)
          have h_p := (S10.out.at 4 rfl)
          refine wp_region_held_drew (S := fun W => W.heap[w.heap.size]? = some (.cells #[.slice ao l.length cap, .int .i64 most, .int .i64 room] 24 (0, 0)) ∧ W.heap[W2.heap.size]? = some (.cells (pcells p (.slice aod p.dn.names.length capd) (.slice aon p.nn.names.length capn)) 93 (0, 0)) ∧ True) (by kernel_rfl) ⟨(S10.out.at 0 rfl), (S10.out.at 4 rfl), trivial⟩ (fun hHeld => ?_)
          clear h_d h_p
          have S11 := Lib.hid (S10.out.call (Below.refl W10.heap.size W10).drew)
          generalize W10.drew = W11 at *
          refine wpAnyH_take (i := 0) rfl (by kernel_rfl) (by kernel_rfl) (by kernel_rfl) (fun _ _ _ h => h) (yieldsIf_load_row (by rfl) 24 _ rfl _ rfl 24 _ (0, 0) _ (fun _ h => h.1) Tryz.underlying24 rfl (by kernel_rfl)) hHeld ?_
          (try simp only [pt, Act.put])
          refine wpAnyH_take (i := 1) rfl (by kernel_rfl) (by kernel_rfl) (by kernel_rfl) (fun _ _ _ h => h) (yieldsIf_load_row (by rfl) 93 _ rfl _ rfl 93 _ (0, 0) _ (fun _ h => h.2.1) Tryz.underlying93 rfl (by kernel_rfl)) hHeld ?_
          (try simp only [pt, Act.put])
          refine wpAnyH_take (i := 2) (v := ?v1) rfl (by kernel_rfl) (by kernel_rfl) (by kernel_rfl) (fun _ _ _ h => h) (Or.inl ⟨by rfl, ?hy1⟩) hHeld ?rest1
          case hy1 => (intro w hSw; (try dsimp only at hSw); (try go_split_ands); go_simp; first | done | with_reducible rfl)
          (try simp only [pt, Act.put])
          refine wpAnyH_take (i := 3) (v := ?v2) rfl (by kernel_rfl) (by kernel_rfl) (by kernel_rfl) (fun _ _ _ h => h) (Or.inl ⟨by rfl, ?hy2⟩) hHeld ?rest2
          case hy2 => (intro w hSw; (try dsimp only at hSw); (try go_split_ands); go_simp; first | done | with_reducible rfl)
          (try simp only [pt, Act.put])
          refine wpAnyH_ready (rs := [4]) (by kernel_rfl) (by simp) ?_
          refine AllReadyH.cons rfl (fun K hK => ?_) AllReadyH.nil
          go_simp
          refine (fault_any p _ _ _ _ W11).mono ?_
          rintro e W12 ⟨rfl, hb⟩
          have S12 := Lib.hid (S11.out.call hb)
          clear hb hHeld
          go_wp2_with fail
          refine hK.out _ _ ⟨(S12.out.at 0 rfl), (S12.out.at 4 rfl), trivial⟩ (fun hHeld => ?_)
          clear hK K
          (try simp only [pt, Act.put])
          refine wpAnyH_ready (rs := [5]) (by kernel_rfl) (by simp) ?_
          refine AllReadyH.cons rfl (fun K hK => ?_) AllReadyH.nil
          go_simp
          refine (chg_number (HS.out.keep S12.out.bel) (ErrIs.below HB.out (bs p.path))).mono ?_
          rintro e W13 ⟨rfl, hb⟩
          have S13 := Lib.hid (S12.out.call hb)
          clear hb hHeld
          go_wp2_with fail
          refine hK.out _ _ ⟨(S13.out.at 0 rfl), (S13.out.at 4 rfl), trivial⟩ (fun hHeld => ?_)
          clear hK K
          (try simp only [pt, Act.put])
          refine wpAnyH_ready (rs := [6]) (by kernel_rfl) (by simp) ?_
          refine AllReadyH.cons rfl (fun K hK => ?_) AllReadyH.nil
          rw [if_pos (by rfl)]
          refine wp_store_row 24 _ _ rfl _ rfl rfl (S13.out.at 3 rfl) rfl (by kernel_rfl) rfl ?_
          intro W14 hb hg hs hn
          have S14 := Lib.hid (S13.out.set 3 rfl hb hg hs hn)
          clear hb hg hs hn hHeld
          refine hK.out _ _ ⟨(S14.out.at 0 rfl), (S14.out.at 4 rfl), trivial⟩ (fun hHeld => ?_)
          clear hK K
          (try simp only [pt, Act.put])
          refine wpAnyH_take (i := 7) (v := ?v3) rfl (by kernel_rfl) (by kernel_rfl) (by kernel_rfl) (fun _ _ _ h => h) (Or.inl ⟨by rfl, ?hy3⟩) hHeld ?rest3
          case hy3 => (intro w hSw; (try dsimp only at hSw); (try go_split_ands); go_simp; first | done | with_reducible rfl)
          (try simp only [pt, Act.put])
          refine wpAnyH_take (i := 8) (v := ?v4) rfl (by kernel_rfl) (by kernel_rfl) (by kernel_rfl) (fun _ _ _ h => h) (Or.inl ⟨by rfl, ?hy4⟩) hHeld ?rest4
          case hy4 => (intro w hSw; (try dsimp only at hSw); (try go_split_ands); go_simp; first | done | with_reducible rfl)
          (try simp only [pt, Act.put])
          refine wpAnyH_done (by kernel_rfl) ?_ _
          go_wp2_with fail
          refine bodyPost_ret (HRET.out _ _ _ (S14.out.at 3 rfl) rfl _ rfl) rfl ?_
          rw [HE4.out]
          exact ⟨_, _, rfl, S14.out.gX 0 rfl, S14.out.bel⟩
      · have hK : (m.kind == 2) = false := by simpa using hk
        obtain ⟨n0, -, -, -, -, -, -, -⟩ := cells8 (S6.out.at 2 rfl)
        go_upto_region 9 with (fail)
        clear n0
        have HM : Hid (penN m who (walkL l who fr path false).1.dir = ⟨m.kind, m.mode, who, 1, m.opn, m.up, m.data, m.names⟩) := Lib.hid (by unfold penN; rw [if_neg hk])
        have HMS : Hid (SmallN ⟨m.kind, m.mode, who, 1, m.opn, m.up, m.data, m.names⟩) := Lib.hid HNS.out
        have HMU : Hid (Up (NodeL.names ⟨m.kind, m.mode, who, 1, m.opn, m.up, m.data, m.names⟩)) := Lib.hid HNU.out
        clear hk
        rw [HM.out, ← HPI.out.1] at HE3
        have h_d := (S6.out.at 0 rfl)
        have h_n := (S6.out.at 2 rfl)
        go_wp2_with (first | (refine wpList_load_row rfl 24 _ rfl _ rfl 24 _ (0, 0) _ h_d Tryz.underlying24 rfl (by kernel_rfl) ?_) | (refine wpList_load_row rfl 63 _ rfl _ rfl 63 _ (0, 0) _ h_n Tryz.underlying63 rfl (by kernel_rfl) ?_))
        refine (add_g (n := ⟨m.kind, m.mode, who, 1, m.opn, m.up, m.data, m.names⟩) _ l most room _ _ W6 S6.out.oldX (S6.out.g 0 rfl) HD.out.sm ((S6.out.n 0 rfl).same rfl) HMS.out).mono ?_
        rintro e W7 ⟨ao2, cap2, rfl, hg2, hb⟩
        clear h_d h_n
        have S7 := Lib.hid ((S6.out.call hb).addG hg2)
        clear hb hg2
        have HO := Lib.hid (Ord.add HD.out HMS.out HMU.out most room)
        have HPN := fun s i => put_small HD.out HMS.out most room s i
        generalize addL l most room ⟨m.kind, m.mode, who, 1, m.opn, m.up, m.data, m.names⟩ = l2 at *
        generalize addI l most room ⟨m.kind, m.mode, who, 1, m.opn, m.up, m.data, m.names⟩ = i2 at *
        generalize addE l most room ⟨m.kind, m.mode, who, 1, m.opn, m.up, m.data, m.names⟩ = e2 at *
        go_upto_region 10 with (first | (refine wpList_fresh1 ?_; intro W8 hb hn hs; have S8 := Lib.hid (S7.out.new1 hb hn); have h_e := S8.out.at 5 rfl; clear hb hn hs) | (refine wpList_store_row rfl 24 _ _ rfl _ rfl rfl h_e rfl (by kernel_rfl) rfl ?_; intro W9 hb hg hs hn; have S9 := Lib.hid (S8.out.set 5 rfl hb hg hs hn); clear hb hg hs hn))
        clear h_e
        by_cases h1 : e2 = 0
        · subst h1
          have HE4 := Lib.hid (HE3.out.trans (if_neg (by simp)))
          clear HE3
          obtain ⟨pw, pp, ⟨sd, sn, si, ss⟩, pd, pn⟩ := p
          obtain ⟨-, -, p2, p3, p4, p5, -, -, -, -, -, -, -, -, -, -, -, -, -, -, -, -⟩ := cells22 (S9.out.at 4 rfl)
          have hm := rangeAt4 (o := 2) p2 p3 p4 p5
          clear p2 p3 p4 p5
          have h_e := (S9.out.at 5 rfl)
          go_wp2_with (first | (refine wpList_load_row rfl 24 _ rfl _ rfl 24 _ (0, 0) _ h_e Tryz.underlying24 rfl (by kernel_rfl) ?_) | (refine wpList_load_mid rfl 91 _ rfl _ 2 rfl _ _ hm Tryz.underlying91 rfl (by kernel_rfl) ?_))
          refine (cput_g _ l2 most room ⟨sd, sn, si, ss⟩ i2 _ _ W9 S9.out.oldX (S9.out.g 1 rfl) HO.out (HPN _ _)).mono ?_
          rintro e W10 ⟨ao3, cap3, rfl, hg3, hb⟩
          clear hm h_e
          have S10 := Lib.hid ((S9.out.call hb).addG hg3)
          clear hb hg3
          have h_r := (S10.out.at 3 rfl)
          go_wp2_with (first | (refine wpList_store_row rfl 24 _ _ rfl _ rfl rfl h_r rfl (by kernel_rfl) rfl ?_; intro W11 hb hg hs hn; have S11 := Lib.hid (S10.out.set 3 rfl hb hg hs hn); clear hb hg hs hn))
          refine bodyPost_ret (HRET.out _ _ _ (S11.out.at 3 rfl) rfl _ rfl) rfl ?_
          rw [HE4.out]
          exact ⟨_, _, rfl, S11.out.gX 2 rfl, S11.out.bel⟩
        · have hI : (e2 != 0) = true := by simpa using h1
          have HE4 := Lib.hid (HE3.out.trans (if_pos h1))
          have HB : Hid (e2 ≠ 0) := Lib.hid h1
          clear HE3 h1
          go_upto_region 11 with (fail)
          have h_d := (S9.out.at 0 rfl)
          have h_p := (S9.out.at 4 rfl)
          refine wp_region_held_drew (S := fun W => W.heap[w.heap.size]? = some (.cells #[.slice ao l.length cap, .int .i64 most, .int .i64 room] 24 (0, 0)) ∧ W.heap[W2.heap.size]? = some (.cells (pcells p (.slice aod p.dn.names.length capd) (.slice aon p.nn.names.length capn)) 93 (0, 0)) ∧ True) (by kernel_rfl) ⟨(S9.out.at 0 rfl), (S9.out.at 4 rfl), trivial⟩ (fun hHeld => ?_)
          clear h_d h_p
          have S10 := Lib.hid (S9.out.call (Below.refl W9.heap.size W9).drew)
          generalize W9.drew = W10 at *
          refine wpAnyH_take (i := 0) rfl (by kernel_rfl) (by kernel_rfl) (by kernel_rfl) (fun _ _ _ h => h) (yieldsIf_load_row (by rfl) 24 _ rfl _ rfl 24 _ (0, 0) _ (fun _ h => h.1) Tryz.underlying24 rfl (by kernel_rfl)) hHeld ?_
          (try simp only [pt, Act.put])
          refine wpAnyH_take (i := 1) rfl (by kernel_rfl) (by kernel_rfl) (by kernel_rfl) (fun _ _ _ h => h) (yieldsIf_load_row (by rfl) 93 _ rfl _ rfl 93 _ (0, 0) _ (fun _ h => h.2.1) Tryz.underlying93 rfl (by kernel_rfl)) hHeld ?_
          (try simp only [pt, Act.put])
          refine wpAnyH_take (i := 2) (v := ?v5) rfl (by kernel_rfl) (by kernel_rfl) (by kernel_rfl) (fun _ _ _ h => h) (Or.inl ⟨by rfl, ?hy5⟩) hHeld ?rest5
          case hy5 => (intro w hSw; (try dsimp only at hSw); (try go_split_ands); go_simp; first | done | with_reducible rfl)
          (try simp only [pt, Act.put])
          refine wpAnyH_take (i := 3) (v := ?v6) rfl (by kernel_rfl) (by kernel_rfl) (by kernel_rfl) (fun _ _ _ h => h) (Or.inl ⟨by rfl, ?hy6⟩) hHeld ?rest6
          case hy6 => (intro w hSw; (try dsimp only at hSw); (try go_split_ands); go_simp; first | done | with_reducible rfl)
          (try simp only [pt, Act.put])
          refine wpAnyH_ready (rs := [4]) (by kernel_rfl) (by simp) ?_
          refine AllReadyH.cons rfl (fun K hK => ?_) AllReadyH.nil
          go_simp
          refine (fault_any p _ _ _ _ W10).mono ?_
          rintro e W11 ⟨rfl, hb⟩
          have S11 := Lib.hid (S10.out.call hb)
          clear hb hHeld
          go_wp2_with fail
          refine hK.out _ _ ⟨(S11.out.at 0 rfl), (S11.out.at 4 rfl), trivial⟩ (fun hHeld => ?_)
          clear hK K
          (try simp only [pt, Act.put])
          refine wpAnyH_ready (rs := [5]) (by kernel_rfl) (by simp) ?_
          refine AllReadyH.cons rfl (fun K hK => ?_) AllReadyH.nil
          go_simp
          refine (chg_number (HS.out.keep S11.out.bel) (ErrIs.below HB.out (bs p.path))).mono ?_
          rintro e W12 ⟨rfl, hb⟩
          have S12 := Lib.hid (S11.out.call hb)
          clear hb hHeld
          go_wp2_with fail
          refine hK.out _ _ ⟨(S12.out.at 0 rfl), (S12.out.at 4 rfl), trivial⟩ (fun hHeld => ?_)
          clear hK K
          (try simp only [pt, Act.put])
          refine wpAnyH_ready (rs := [6]) (by kernel_rfl) (by simp) ?_
          refine AllReadyH.cons rfl (fun K hK => ?_) AllReadyH.nil
          rw [if_pos (by rfl)]
          refine wp_store_row 24 _ _ rfl _ rfl rfl (S12.out.at 3 rfl) rfl (by kernel_rfl) rfl ?_
          intro W13 hb hg hs hn
          have S13 := Lib.hid (S12.out.set 3 rfl hb hg hs hn)
          clear hb hg hs hn hHeld
          refine hK.out _ _ ⟨(S13.out.at 0 rfl), (S13.out.at 4 rfl), trivial⟩ (fun hHeld => ?_)
          clear hK K
          (try simp only [pt, Act.put])
          refine wpAnyH_take (i := 7) (v := ?v7) rfl (by kernel_rfl) (by kernel_rfl) (by kernel_rfl) (fun _ _ _ h => h) (Or.inl ⟨by rfl, ?hy7⟩) hHeld ?rest7
          case hy7 => (intro w hSw; (try dsimp only at hSw); (try go_split_ands); go_simp; first | done | with_reducible rfl)
          (try simp only [pt, Act.put])
          refine wpAnyH_take (i := 8) (v := ?v8) rfl (by kernel_rfl) (by kernel_rfl) (by kernel_rfl) (fun _ _ _ h => h) (Or.inl ⟨by rfl, ?hy8⟩) hHeld ?rest8
          case hy8 => (intro w hSw; (try dsimp only at hSw); (try go_split_ands); go_simp; first | done | with_reducible rfl)
          (try simp only [pt, Act.put])
          refine wpAnyH_done (by kernel_rfl) ?_ _
          go_wp2_with fail
          refine bodyPost_ret (HRET.out _ _ _ (S13.out.at 3 rfl) rfl _ rfl) rfl ?_
          rw [HE4.out]
          exact ⟨_, _, rfl, S13.out.gX 0 rfl, S13.out.bel⟩
    · have HE3 := Lib.hid (HE2.out.trans (if_pos h1))
      clear HE2 h1 hv2
      go_upto_region 5 with (fail)
      have h_d := (S5.out.at 0 rfl)
      refine wp_region_held_drew (S := fun W => W.heap[w.heap.size]? = some (.cells #[.slice ao l.length cap, .int .i64 most, .int .i64 room] 24 (0, 0)) ∧ True) (by kernel_rfl) ⟨(S5.out.at 0 rfl), trivial⟩ (fun hHeld => ?_)
      clear h_d
      have S6 := Lib.hid (S5.out.call (Below.refl W5.heap.size W5).drew)
      generalize W5.drew = W6 at *
      refine wpAnyH_take (i := 0) rfl (by kernel_rfl) (by kernel_rfl) (by kernel_rfl) (fun _ _ _ h => h) (yieldsIf_load_row (by rfl) 24 _ rfl _ rfl 24 _ (0, 0) _ (fun _ h => h.1) Tryz.underlying24 rfl (by kernel_rfl)) hHeld ?_
      (try simp only [pt, Act.put])
      refine wpAnyH_take (i := 1) (v := ?v9) rfl (by kernel_rfl) (by kernel_rfl) (by kernel_rfl) (fun _ _ _ h => h) (Or.inl ⟨by rfl, ?hy9⟩) hHeld ?rest9
      case hy9 => (intro w hSw; (try dsimp only at hSw); (try go_split_ands); go_simp; first | done | with_reducible rfl)
      (try simp only [pt, Act.put])
      refine wpAnyH_ready (rs := [2]) (by kernel_rfl) (by simp) ?_
      refine AllReadyH.cons rfl (fun K hK => ?_) AllReadyH.nil
      go_simp
      refine (chg_number (HS.out.keep S6.out.bel) HV2.out).mono ?_
      rintro e W7 ⟨rfl, hb⟩
      have S7 := Lib.hid (S6.out.call hb)
      clear hb hHeld
      go_wp2_with fail
      refine hK.out _ _ ⟨(S7.out.at 0 rfl), trivial⟩ (fun hHeld => ?_)
      clear hK K
      (try simp only [pt, Act.put])
      refine wpAnyH_ready (rs := [3]) (by kernel_rfl) (by simp) ?_
      refine AllReadyH.cons rfl (fun K hK => ?_) AllReadyH.nil
      rw [if_pos (by rfl)]
      refine wp_store_row 24 _ _ rfl _ rfl rfl (S7.out.at 3 rfl) rfl (by kernel_rfl) rfl ?_
      intro W8 hb hg hs hn
      have S8 := Lib.hid (S7.out.set 3 rfl hb hg hs hn)
      clear hb hg hs hn hHeld
      refine hK.out _ _ ⟨(S8.out.at 0 rfl), trivial⟩ (fun hHeld => ?_)
      clear hK K
      (try simp only [pt, Act.put])
      refine wpAnyH_take (i := 4) (v := ?v10) rfl (by kernel_rfl) (by kernel_rfl) (by kernel_rfl) (fun _ _ _ h => h) (Or.inl ⟨by rfl, ?hy10⟩) hHeld ?rest10
      case hy10 => (intro w hSw; (try dsimp only at hSw); (try go_split_ands); go_simp; first | done | with_reducible rfl)
      (try simp only [pt, Act.put])
      refine wpAnyH_take (i := 5) (v := ?v11) rfl (by kernel_rfl) (by kernel_rfl) (by kernel_rfl) (fun _ _ _ h => h) (Or.inl ⟨by rfl, ?hy11⟩) hHeld ?rest11
      case hy11 => (intro w hSw; (try dsimp only at hSw); (try go_split_ands); go_simp; first | done | with_reducible rfl)
      (try simp only [pt, Act.put])
      refine wpAnyH_done (by kernel_rfl) ?_ _
      go_wp2_with fail
      refine bodyPost_ret (HRET.out _ _ _ (S8.out.at 3 rfl) rfl _ rfl) rfl ?_
      rw [HE3.out]
      exact ⟨_, _, rfl, S8.out.gX 0 rfl, S8.out.bel⟩
  · have HE2 := Lib.hid (HE.out.trans (if_pos h0))
    clear HE h0 hv
    go_upto_region 5 with (fail)
    have h_d := (S4.out.at 0 rfl)
    refine wp_region_held_drew (S := fun W => W.heap[w.heap.size]? = some (.cells #[.slice ao l.length cap, .int .i64 most, .int .i64 room] 24 (0, 0)) ∧ True) (by kernel_rfl) ⟨(S4.out.at 0 rfl), trivial⟩ (fun hHeld => ?_)
    clear h_d
    have S5 := Lib.hid (S4.out.call (Below.refl W4.heap.size W4).drew)
    generalize W4.drew = W5 at *
    refine wpAnyH_take (i := 0) rfl (by kernel_rfl) (by kernel_rfl) (by kernel_rfl) (fun _ _ _ h => h) (yieldsIf_load_row (by rfl) 24 _ rfl _ rfl 24 _ (0, 0) _ (fun _ h => h.1) Tryz.underlying24 rfl (by kernel_rfl)) hHeld ?_
    (try simp only [pt, Act.put])
    refine wpAnyH_take (i := 1) (v := ?v12) rfl (by kernel_rfl) (by kernel_rfl) (by kernel_rfl) (fun _ _ _ h => h) (Or.inl ⟨by rfl, ?hy12⟩) hHeld ?rest12
    case hy12 => (intro w hSw; (try dsimp only at hSw); (try go_split_ands); go_simp; first | done | with_reducible rfl)
    (try simp only [pt, Act.put])
    refine wpAnyH_ready (rs := [2]) (by kernel_rfl) (by simp) ?_
    refine AllReadyH.cons rfl (fun K hK => ?_) AllReadyH.nil
    go_simp
    refine (chg_number (HS.out.keep S5.out.bel) HV.out).mono ?_
    rintro e W6 ⟨rfl, hb⟩
    have S6 := Lib.hid (S5.out.call hb)
    clear hb hHeld
    go_wp2_with fail
    refine hK.out _ _ ⟨(S6.out.at 0 rfl), trivial⟩ (fun hHeld => ?_)
    clear hK K
    (try simp only [pt, Act.put])
    refine wpAnyH_ready (rs := [3]) (by kernel_rfl) (by simp) ?_
    refine AllReadyH.cons rfl (fun K hK => ?_) AllReadyH.nil
    rw [if_pos (by rfl)]
    refine wp_store_row 24 _ _ rfl _ rfl rfl (S6.out.at 3 rfl) rfl (by kernel_rfl) rfl ?_
    intro W7 hb hg hs hn
    have S7 := Lib.hid (S6.out.set 3 rfl hb hg hs hn)
    clear hb hg hs hn hHeld
    refine hK.out _ _ ⟨(S7.out.at 0 rfl), trivial⟩ (fun hHeld => ?_)
    clear hK K
    (try simp only [pt, Act.put])
    refine wpAnyH_take (i := 4) (v := ?v13) rfl (by kernel_rfl) (by kernel_rfl) (by kernel_rfl) (fun _ _ _ h => h) (Or.inl ⟨by rfl, ?hy13⟩) hHeld ?rest13
    case hy13 => (intro w hSw; (try dsimp only at hSw); (try go_split_ands); go_simp; first | done | with_reducible rfl)
    (try simp only [pt, Act.put])
    refine wpAnyH_take (i := 5) (v := ?v14) rfl (by kernel_rfl) (by kernel_rfl) (by kernel_rfl) (fun _ _ _ h => h) (Or.inl ⟨by rfl, ?hy14⟩) hHeld ?rest14
    case hy14 => (intro w hSw; (try dsimp only at hSw); (try go_split_ands); go_simp; first | done | with_reducible rfl)
    (try simp only [pt, Act.put])
    refine wpAnyH_done (by kernel_rfl) ?_ _
    go_wp2_with fail
    refine bodyPost_ret (HRET.out _ _ _ (S7.out.at 3 rfl) rfl _ rfl) rfl ?_
    rw [HE2.out]
    exact ⟨_, _, rfl, S7.out.gX 0 rfl, S7.out.bel⟩
end Go.Proofs.YtpmhmippoefcfaaGreatDoor
