/-
  The program's Link. A statement's state; the small contracts, of whatever reads as these nodes.
-/
import Derived.RangeFuncNested
import Derived.RangeFuncBound
import Derived.RangeFuncCalls
import Derived.RangeFuncLeaves
import Derived.RangeFuncBox
import Derived.Shelf.Abstract
import Derived.Shelf.RegionOpen
import Derived.WalkKit
import Derived.OwnWalkIn
import Derived.TacticsInMore
import Derived.LoopNIn
import Derived.LoopIn
import Derived.Lib.Hide
import Derived.Outline
import Derived.Deep.QuietTactic
import Derived.Deep.AppendLies
import Derived.BigQuiet
import Derived.Lib.Strings
import Derived.WalkSmall
import Derived.Shelf.Small.Strs
import Derived.Shelf.Strings.Search1
import Derived.Shelf.Strings.Prefix
import Derived.Laws.AppendOwn
import Derived.Laws.OwnMore
import Derived.Laws.AppendOwnNone
import Derived.WideShapes
import Derived.Lib.TrimByte
import Derived.Lib.Bytealg
import Derived.Lib.QuietBelow
import Derived.Deep.DrawnRows
import Derived.Laws.Cover1
import Derived.WalkMore
import Derived.Shelf.Spec.SlicesGrow
import Derived.StillTailTactics
import Derived.Laws.BitsLemmas
import Derived.Laws.RangeAny
import Derived.Laws.Runes
import Derived.Lib.Builder
import Derived.Deep.WholeRow
import Derived.Lib.OthersKept
import Derived.Shelf.SlSorted.Search
import Derived.LaidEql
import Derived.Stop.Asserts
import Derived.RowKitTokens
import Derived.Deep.RegionHeld3
import Derived.Deep.RegionLaw
import Derived.Handy
import Derived.Laws.IdiomCopy
import Derived.Lib.SliceRun
import Derived.Laws.ResultCell
import Derived.Deep.LoopGhost
import Derived.Deep.DeepCutAuto
import Derived.Deep.MidRow
import Derived.BigRegion
import Derived.Test.YtpmhmippoefcfaaGreatDoorProg
import Derived.Test.YtpmhmippoefcfaaGreatDoorShelf
import Derived.Test.YtpmhmippoefcfaaGreatDoorB01
import Derived.Test.YtpmhmippoefcfaaGreatDoorB02
import Derived.Test.YtpmhmippoefcfaaGreatDoorB04
import Derived.Test.YtpmhmippoefcfaaGreatDoorB05
import Derived.Test.YtpmhmippoefcfaaGreatDoorB06
import Derived.Test.YtpmhmippoefcfaaGreatDoorB07
import Derived.Test.YtpmhmippoefcfaaGreatDoorB08
import Derived.Test.YtpmhmippoefcfaaGreatDoorB10
import Derived.Test.YtpmhmippoefcfaaGreatDoorB11
import Derived.Test.YtpmhmippoefcfaaGreatDoorB12
import Derived.Test.YtpmhmippoefcfaaGreatDoorB13
import Derived.Test.YtpmhmippoefcfaaGreatDoorB14
import Derived.Test.YtpmhmippoefcfaaGreatDoorB16
import Derived.Test.YtpmhmippoefcfaaGreatDoorB17
import Derived.Test.YtpmhmippoefcfaaGreatDoorB18
import Derived.Test.YtpmhmippoefcfaaGreatDoorB19
import Derived.Test.YtpmhmippoefcfaaGreatDoorB21
import Derived.Test.YtpmhmippoefcfaaGreatDoorB24
import Derived.Test.YtpmhmippoefcfaaGreatDoorChangeRightE01
import Derived.Test.YtpmhmippoefcfaaGreatDoorChangeRightE02
namespace Go.Proofs.YtpmhmippoefcfaaGreatDoor
open Go.RowKit Go.Shelf
attribute [local go_sem ↓] Go.wp_at_zero Go.wp_at_succ
theorem link_eq {l : List NodeL} (hd : Dsk l) {who fr : Int} {old path : Str} {n : Int} (hn : n = linkedE l who old path (walkL l who fr old false) (walkL l who fr path false)) :
    linkL l who fr old path = if n ≠ 0 then (l, n) else (namedL (setL l (placeOf l who old (walkL l who fr old false)).s.ino (moreN (placeOf l who old (walkL l who fr old false)).nn)) (placeOf l who path (walkL l who fr path false)).s (placeOf l who old (walkL l who fr old false)).s.ino, 0) := by
  subst hn
  unfold linkL linkedE
  by_cases h0 : thereE (walkL l who fr old false) = 0
  · obtain ⟨h1, h2⟩ := pthere_zero h0
    have hw : wnodeL (walkL l who fr old false) = ((walkL l who fr old false).1.ino, 0) := by
      unfold wnodeL
      rw [if_neg (by simp [h1]), if_neg (by omega)]
    obtain ⟨p1, _, _, p4⟩ := place_ino (l := l) (who := who) (path := old) h1
    rw [hw, p1, p4, h0]
    dsimp only
    generalize nodeL l (walkL l who fr old false).1.ino = m
    by_cases hk : m.kind = 2
    · simp [hk]
    · by_cases hl : 20 ≤ m.links
      · simp [hk, hl]
      · unfold spotE
        by_cases h3 : (walkL l who fr path false).2 = 0
        · obtain ⟨q1, _, _, _⟩ := place_ino (l := l) (who := who) (path := path) h3
          rw [to_enter_at hd h3 2, q1, h3]
          generalize freeE l who (walkL l who fr path false).1 = fe
          by_cases h4 : fe = 0
          · cases h5 : (walkL l who fr path false).1.slash <;> simp [hk, hl, h4]
          · simp [hk, hl, h4]
        · simp [hk, hl, h3]
  · have hw : (wnodeL (walkL l who fr old false)).2 = thereE (walkL l who fr old false) := by
      unfold wnodeL thereE
      split
      · rfl
      · split <;> rfl
    rw [hw, if_pos h0, if_pos h0, if_pos h0]
set_option maxRecDepth 100000 in
set_option maxHeartbeats 40000000 in
theorem plink_g (X : Nat → Prop) {S : Nat → Addr} (l : List NodeL) (most room who fr : Int) (old path : Str) (ao : Option Addr) (cap : Nat) (w : World) (hX : Old X w) (hg : GivesX X l (.slice ao l.length cap) w) (hd : Dsk l) (hplpath : path.length ≤ 10000) (hs : Sent S w) (hplold : old.length ≤ 10000) :
    Calls Tryz.prog 22 #[diskV ao l.length cap most room, asV who fr, .string (bs old), .string (bs path)] w fun e w' => ChgIs X (linkL l who fr old path) most room e w w' := by
  have S0 := Lib.hid (St.start (G := [(l, .slice ao l.length cap)]) (N := []) hX (one_g hg) no_n)
  have HD := Lib.hid hd
  have HS := Lib.hid hs
  have HRET : Hid (∀ (W : World) (cs : Array Value) (fr), W.heap[w.heap.size + 2]? = some (.cells cs 24 fr) → cs.size = 3 → ∀ tmps : Array Value, tmps.getD 8 undef = .pointer (some ⟨w.heap.size + 2, 0, none⟩) → (results Tryz.f22 tmps).run Tryz.prog W = .ok (.tuple #[.agg cs, tmps.getD 9 undef]) W) := Lib.hid fun W cs fr h hs tmps ht =>
  results_ct (p := 8) (u := 9) (ty := 24) rfl tmps W (w.heap.size + 2) _ cs fr _ ht h Tryz.underlying24 rfl (by rw [hs]; kernel_rfl)
  clear hX hg hd hs
  go_enter Tryz.func22, Tryz.ntmps22
  go_upto_region 1 with (fail)
  refine code_fresh3 ?_
  intro W1 hb hA0 hA1 hA2 hs
  have S1 := Lib.hid (S0.out.new3 hb hA0 hA1 hA2)
  clear hb hA0 hA1 hA2 hs
  have h_d := (S1.out.at 0 rfl)
  have h_a := (S1.out.at 1 rfl)
  go_wp2_with (first | (refine wpList_load_row rfl 24 _ rfl _ rfl 24 _ (0, 0) _ h_d Tryz.underlying24 rfl (by kernel_rfl) ?_) | (refine wpList_load_row rfl 26 _ rfl _ rfl 26 _ (0, 0) _ h_a Tryz.underlying26 rfl (by kernel_rfl) ?_))
  refine (linked_g _ l most room who fr old path _ _ W1 S1.out.oldX (S1.out.g 0 rfl) HD.out hplold hplpath (HS.out.keep S1.out.bel)).mono ?_
  rintro e W2 ⟨p, q, v, aod, capd, aon, capn, aod2, capd2, aon2, capn2, rfl, hv, hpq, ⟨hn1, hn2, hn3, hn4⟩, hb⟩
  clear h_d h_a
  have S2 := Lib.hid (((((S1.out.call hb).addN hn1).addN hn2).addN hn3).addN hn4)
  clear hb hn1 hn2 hn3 hn4
  obtain ⟨n, hn⟩ : ∃ n, n = linkedE l who old path (walkL l who fr old false) (walkL l who fr path false) := ⟨_, rfl⟩
  rw [← hn] at hv hpq
  have HE := Lib.hid (link_eq HD.out hn)
  clear hn
  have HV := Lib.hid hv
  have HPQ := Lib.hid hpq
  clear hpq
  go_upto_region 2 with (first | (refine wpList_fresh1 ?_; intro W3 hb hn hs; have S3 := Lib.hid (S2.out.new1 hb hn); clear hb hn hs) | (refine wpList_fresh1 ?_; intro W4 hb hn hs; have S4 := Lib.hid (S3.out.new1 hb hn); have h_f := S4.out.at 3 rfl; have h_t := S4.out.at 4 rfl; clear hb hn hs) | (refine wpList_store_row rfl 93 _ _ rfl _ rfl rfl h_f rfl (by kernel_rfl) rfl ?_; intro W5 hb hg hs hn; have S5 := Lib.hid (S4.out.set 3 rfl hb hg hs hn); clear hb hg hs hn; have h_t := S5.out.at 4 rfl) | (refine wpList_store_row rfl 93 _ _ rfl _ rfl rfl h_t rfl (by kernel_rfl) rfl ?_; intro W6 hb hg hs hn; have S6 := Lib.hid (S5.out.set 4 rfl hb hg hs hn); clear hb hg hs hn))
  clear h_f h_t
  rcases hv.form with ⟨h0, rfl⟩ | ⟨h0, c1, c2, rfl⟩
  · have HE2 := Lib.hid (HE.out.trans (if_neg (by simp [h0])))
    rw [← (HPQ.out h0).1, ← (HPQ.out h0).2] at HE2
    have HM := place_small HD.out who old (walkL l who fr old false)
    rw [← (HPQ.out h0).1] at HM
    have HMS := Lib.hid HM
    have hw : IntKind.i64.wrap (p.nn.links + 1) = p.nn.links + 1 := Go.IntWalk.i64_in _ (by have := HM.1; omega)
    clear HM h0 hv HE HPQ HV
    obtain ⟨pw, pp, ⟨sd, sn, si, ss⟩, pd, m⟩ := p
    obtain ⟨qw, qp, ⟨td, tn, ti, ts⟩, qd, qn⟩ := q
    dsimp only at HE2 HMS hw
    dsimp only at S6
    obtain ⟨-, -, -, -, -, -, -, -, -, -, -, -, -, -, -, -, -, f17, -, -, -, -⟩ := cells22 (S6.out.at 3 rfl)
    have ff := fun j => Lib.frozen_of_heap (S6.out.at 3 rfl) j
    go_upto_region 5 with (fail)
    refine code_set22_17 (S6.out.at 3 rfl) ?_
    intro W7 hb hg hs hn
    clear f17 ff
    have S7 := Lib.hid (S6.out.set 3 rfl hb hg hs hn)
    clear hb hg hs hn
    clear hw
    obtain ⟨-, -, -, -, f4, -, -, -, -, -, -, -, -, -, -, -, -, -, -, -, -, -⟩ := cells22 (S7.out.at 3 rfl)
    have hm := place_node (S7.out.at 3 rfl)
    have h_d := (S7.out.at 0 rfl)
    go_wp2_with (first | (refine wpList_load_row rfl 24 _ rfl _ rfl 24 _ (0, 0) _ h_d Tryz.underlying24 rfl (by kernel_rfl) ?_) | (refine wpList_load_mid rfl 63 _ rfl _ 14 rfl _ _ hm Tryz.underlying63 rfl (by kernel_rfl) ?_))
    refine (set_g _ l most room si ⟨m.kind, m.mode, m.owner, m.links + 1, m.opn, m.up, m.data, m.names⟩ _ _ W7 S7.out.oldX (S7.out.g 0 rfl) HD.out.len ((S7.out.n 1 rfl).same rfl) (Nat.le_trans HMS.out.2.1 (by decide))).mono ?_
    rintro e W8 ⟨ao1, cp1, rfl, hg1, hb⟩
    clear f4 hm h_d
    have S8 := Lib.hid ((S7.out.call hb).addG hg1)
    clear hb hg1
    have HO : Hid (Ord (setL l si ⟨m.kind, m.mode, m.owner, m.links + 1, m.opn, m.up, m.data, m.names⟩)) := Lib.hid (Ord.set (n := ⟨m.kind, m.mode, m.owner, m.links + 1, m.opn, m.up, m.data, m.names⟩) HD.out.ord (Nat.le_trans HMS.out.2.1 (by decide)) HMS.out.2.2.1 si)
    have HPN : Hid (∀ (s : SpotL) (i : Int), (putN (nodeL (setL l si ⟨m.kind, m.mode, m.owner, m.links + 1, m.opn, m.up, m.data, m.names⟩) s.dir) s.name i).names.length ≤ 10000) := Lib.hid fun s i => by
      have h1 := put_len (nodeL (setL l si ⟨m.kind, m.mode, m.owner, m.links + 1, m.opn, m.up, m.data, m.names⟩) s.dir).names (s.name, i)
      have h2 := (Siz.node (a := 110) (c := 130) (Siz.set (a := 110) (c := 130) HD.out.sm (n := ⟨m.kind, m.mode, m.owner, m.links + 1, m.opn, m.up, m.data, m.names⟩) ⟨HMS.out.2.2.2, HMS.out.2.1⟩ si) s.dir).2
      show (putL _ _).length ≤ 10000
      omega
    have HEQ : Hid (moreN m = ⟨m.kind, m.mode, m.owner, m.links + 1, m.opn, m.up, m.data, m.names⟩) := Lib.hid rfl
    rw [HEQ.out] at HE2
    obtain ⟨l1, hl1⟩ : ∃ L, L = setL l si ⟨m.kind, m.mode, m.owner, m.links + 1, m.opn, m.up, m.data, m.names⟩ := ⟨_, rfl⟩
    rw [← hl1] at S8 HO HPN HE2 ⊢
    clear hl1
    have h_d := (S8.out.at 0 rfl)
    go_upto_region 6 with (first | (refine wpList_store_row rfl 24 _ _ rfl _ rfl rfl h_d rfl (by kernel_rfl) rfl ?_; intro W9 hb hg hs hn; have S9 := Lib.hid (S8.out.set 0 rfl hb hg hs hn); clear hb hg hs hn))
    clear h_d
    obtain ⟨-, -, -, -, f4, -, -, -, -, -, -, -, -, -, -, -, -, -, -, -, -, -⟩ := cells22 (S9.out.at 3 rfl)
    obtain ⟨-, -, t2, t3, t4, t5, -, -, -, -, -, -, -, -, -, -, -, -, -, -, -, -⟩ := cells22 (S9.out.at 4 rfl)
    have hm := rangeAt4 (o := 2) t2 t3 t4 t5
    clear t2 t3 t4 t5
    have h_d := (S9.out.at 0 rfl)
    go_wp2_with (first | (refine wpList_load_row rfl 24 _ rfl _ rfl 24 _ (0, 0) _ h_d Tryz.underlying24 rfl (by kernel_rfl) ?_) | (refine wpList_load_mid rfl 91 _ rfl _ 2 rfl _ _ hm Tryz.underlying91 rfl (by kernel_rfl) ?_))
    refine (cput_g _ l1 most room ⟨td, tn, ti, ts⟩ si _ _ W9 S9.out.oldX (S9.out.g 1 rfl) HO.out (HPN.out _ _)).mono ?_
    rintro e W10 ⟨ao2, cp2, rfl, hg2, hb⟩
    clear f4 hm h_d
    have S10 := Lib.hid ((S9.out.call hb).addG hg2)
    clear hb hg2
    have h_r := (S10.out.at 2 rfl)
    go_wp2_with (first | (refine wpList_store_row rfl 24 _ _ rfl _ rfl rfl h_r rfl (by kernel_rfl) rfl ?_; intro W11 hb hg hs hn; have S11 := Lib.hid (S10.out.set 2 rfl hb hg hs hn); clear hb hg hs hn))
    refine bodyPost_ret (HRET.out _ _ _ (S11.out.at 2 rfl) rfl _ rfl) rfl ?_
    rw [HE2.out]
    exact ⟨_, _, rfl, S11.out.gX 2 rfl, S11.out.bel⟩
  · have HE2 := Lib.hid (HE.out.trans (if_pos h0))
    clear HE h0 hv HPQ
    go_upto_region 3 with (fail)
    have h_d := (S6.out.at 0 rfl)
    refine wp_region_held_drew (S := fun W => W.heap[w.heap.size]? = some (.cells #[.slice ao l.length cap, .int .i64 most, .int .i64 room] 24 (0, 0)) ∧ True) (by kernel_rfl) ⟨(S6.out.at 0 rfl), trivial⟩ (fun hHeld => ?_)
    clear h_d
    have S7 := Lib.hid (S6.out.call (Below.refl W6.heap.size W6).drew)
    generalize W6.drew = W7 at *
    refine wpAnyH_take (i := 0) rfl (by kernel_rfl) (by kernel_rfl) (by kernel_rfl) (fun _ _ _ h => h) (yieldsIf_load_row (by rfl) 24 _ rfl _ rfl 24 _ (0, 0) _ (fun _ h => h.1) Tryz.underlying24 rfl (by kernel_rfl)) hHeld ?_
    (try simp only [pt, Act.put])
    refine wpAnyH_take (i := 1) (v := ?v1) rfl (by kernel_rfl) (by kernel_rfl) (by kernel_rfl) (fun _ _ _ h => h) (Or.inl ⟨by rfl, ?hy1⟩) hHeld ?rest1
    case hy1 => (intro w hSw; (try dsimp only at hSw); (try go_split_ands); go_simp; first | done | with_reducible rfl)
    (try simp only [pt, Act.put])
    refine wpAnyH_ready (rs := [2]) (by kernel_rfl) (by simp) ?_
    refine AllReadyH.cons rfl (fun K hK => ?_) AllReadyH.nil
    go_simp
    refine (chg_number (HS.out.keep S7.out.bel) HV.out).mono ?_
    rintro e W8 ⟨rfl, hb⟩
    have S8 := Lib.hid (S7.out.call hb)
    clear hb hHeld
    go_wp2_with fail
    refine hK.out _ _ ⟨(S8.out.at 0 rfl), trivial⟩ (fun hHeld => ?_)
    clear hK K
    (try simp only [pt, Act.put])
    refine wpAnyH_ready (rs := [3]) (by kernel_rfl) (by simp) ?_
    refine AllReadyH.cons rfl (fun K hK => ?_) AllReadyH.nil
    rw [if_pos (by rfl)]
    refine wp_store_row 24 _ _ rfl _ rfl rfl (S8.out.at 2 rfl) rfl (by kernel_rfl) rfl ?_
    intro W9 hb hg hs hn
    have S9 := Lib.hid (S8.out.set 2 rfl hb hg hs hn)
    clear hb hg hs hn hHeld
    refine hK.out _ _ ⟨(S9.out.at 0 rfl), trivial⟩ (fun hHeld => ?_)
    clear hK K
    (try simp only [pt, Act.put])
    refine wpAnyH_take (i := 4) (v := ?v2) rfl (by kernel_rfl) (by kernel_rfl) (by kernel_rfl) (fun _ _ _ h => h) (Or.inl ⟨by rfl, ?hy2⟩) hHeld ?rest2
    case hy2 => (intro w hSw; (try dsimp only at hSw); (try go_split_ands); go_simp; first | done | with_reducible rfl)
    (try simp only [pt, Act.put])
    refine wpAnyH_done (by kernel_rfl) ?_ _
    go_wp2_with fail
    refine bodyPost_ret (HRET.out _ _ _ (S9.out.at 2 rfl) rfl _ rfl) rfl ?_
    rw [HE2.out]
    exact ⟨_, _, rfl, S9.out.gX 0 rfl, S9.out.bel⟩
end Go.Proofs.YtpmhmippoefcfaaGreatDoor
namespace Go.Proofs.YtpmhmippoefcfaaGreatDoor
open Go.RowKit Go.Shelf
attribute [local go_sem ↓] Go.wp_at_zero Go.wp_at_succ
theorem its_f (l : List NodeL) (a b : Int) (hl : l.length ≤ 10000) (hnl : ∀ n ∈ l, n.names.length ≤ 10000) (v : Value) (W : World) (hg : GivesN l v W) :
    Calls Tryz.prog 13 #[.agg #[v, .int .i64 a, .int .i64 b]] W fun e w' => ∃ ao cap, e = .returned (diskV ao l.length cap a b) ∧ GivesN l (.slice ao l.length cap) w' ∧ Below W.heap.size W w' := by
  refine (its_g l a b hl hnl v W hg).mono ?_
  rintro e w' ⟨v', rfl, h1, h2⟩
  obtain ⟨ao, cap, rfl⟩ := gives_form (gives_no h1)
  exact ⟨ao, cap, rfl, h1, h2⟩
theorem rright_g (l : List NodeL) (a b : Int) (hs : Small l) (hf : FitD l) (hr : rightR l a b = true) (v : Value) (W : World) (hg : GivesN l v W) :
    Calls Tryz.prog 32 #[.agg #[v, .int .i64 a, .int .i64 b]] W fun e w' => e = .returned (.bool true) ∧ Below W.heap.size W w' := by
  obtain ⟨m, rfl, h⟩ := hg
  have := rright_any v m a b W h hs hf
  rw [hr] at this
  exact this
/-- A disk, told with an error, in no block of X. -/
def ChgX (X : Nat → Prop) (l : List NodeL) (n most room : Int) (e : Ending) (w w' : World) : Prop :=
  ∃ ao cap, e = .returned (.tuple #[diskV ao l.length cap most room, .int .i64 n]) ∧ GivesX X l (.slice ao l.length cap) w' ∧ Below w.heap.size w w'
def MakX (X : Nat → Prop) (l : List NodeL) (i n most room : Int) (e : Ending) (w w' : World) : Prop :=
  ∃ ao cap, e = .returned (.tuple #[diskV ao l.length cap most room, .int .i64 i, .int .i64 n]) ∧ GivesX X l (.slice ao l.length cap) w' ∧ Below w.heap.size w w'
end Go.Proofs.YtpmhmippoefcfaaGreatDoor
