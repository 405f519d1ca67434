/-
  The program's Rename.
-/
import Derived.RangeFuncNested
import Derived.RangeFuncBound
import Derived.RangeFuncCalls
import Derived.RangeFuncLeaves
import Derived.RangeFuncBox
import Derived.Shelf.Abstract
import Derived.Shelf.RegionOpen
import Derived.WalkKit
import Derived.OwnWalkIn
import Derived.TacticsInMore
import Derived.LoopNIn
import Derived.LoopIn
import Derived.Lib.Hide
import Derived.Outline
import Derived.Deep.QuietTactic
import Derived.Deep.AppendLies
import Derived.BigQuiet
import Derived.Lib.Strings
import Derived.WalkSmall
import Derived.Shelf.Small.Strs
import Derived.Shelf.Strings.Search1
import Derived.Shelf.Strings.Prefix
import Derived.Laws.AppendOwn
import Derived.Laws.OwnMore
import Derived.Laws.AppendOwnNone
import Derived.WideShapes
import Derived.Lib.TrimByte
import Derived.Lib.Bytealg
import Derived.Lib.QuietBelow
import Derived.Deep.DrawnRows
import Derived.Laws.Cover1
import Derived.WalkMore
import Derived.Shelf.Spec.SlicesGrow
import Derived.StillTailTactics
import Derived.Laws.BitsLemmas
import Derived.Laws.RangeAny
import Derived.Laws.Runes
import Derived.Lib.Builder
import Derived.Deep.WholeRow
import Derived.Lib.OthersKept
import Derived.Shelf.SlSorted.Search
import Derived.LaidEql
import Derived.Stop.Asserts
import Derived.RowKitTokens
import Derived.Deep.RegionHeld3
import Derived.Deep.RegionLaw
import Derived.Handy
import Derived.Laws.IdiomCopy
import Derived.Lib.SliceRun
import Derived.Laws.ResultCell
import Derived.Deep.LoopGhost
import Derived.Deep.DeepCutAuto
import Derived.Deep.MidRow
import Derived.BigRegion
import Derived.Test.YtpmhmippoefcfaaGreatDoorProg
import Derived.Test.YtpmhmippoefcfaaGreatDoorShelf
import Derived.Test.YtpmhmippoefcfaaGreatDoorB01
import Derived.Test.YtpmhmippoefcfaaGreatDoorB02
import Derived.Test.YtpmhmippoefcfaaGreatDoorB04
import Derived.Test.YtpmhmippoefcfaaGreatDoorB05
import Derived.Test.YtpmhmippoefcfaaGreatDoorB07
import Derived.Test.YtpmhmippoefcfaaGreatDoorB08
import Derived.Test.YtpmhmippoefcfaaGreatDoorB10
import Derived.Test.YtpmhmippoefcfaaGreatDoorB12
import Derived.Test.YtpmhmippoefcfaaGreatDoorB13
import Derived.Test.YtpmhmippoefcfaaGreatDoorB14
import Derived.Test.YtpmhmippoefcfaaGreatDoorB16
import Derived.Test.YtpmhmippoefcfaaGreatDoorB17
import Derived.Test.YtpmhmippoefcfaaGreatDoorB18
import Derived.Test.YtpmhmippoefcfaaGreatDoorB19
import Derived.Test.YtpmhmippoefcfaaGreatDoorB21
import Derived.Test.YtpmhmippoefcfaaGreatDoorB22
namespace Go.Proofs.YtpmhmippoefcfaaGreatDoor
open Go.RowKit Go.Shelf
attribute [local go_sem ↓] Go.wp_at_zero Go.wp_at_succ
theorem lose_at2 (X : Nat → Prop) {l : List NodeL} (hd : Ord l) (most room : Int) {p : PlaceL} (ao aod aon : Option Addr) (cap capd capn : Nat) (w : World) (hX : Old X w) (hg : GivesX X l (.slice ao l.length cap) w)
    (hn : NodeX X p.nn (.slice aon p.nn.names.length capn) w) (h1 : p.nn = nodeL l p.s.ino) (h2 : p.s.ino ≠ p.s.dir) (h3 : p.nn.kind = 1 ∨ p.nn.kind = 2 ∨ p.nn.kind = 3) (h4 : 0 ≤ p.nn.links ∧ p.nn.links ≤ 14300) :
    Calls Tryz.prog 57 #[diskV ao l.length cap most room, .agg (pcells p (.slice aod p.dn.names.length capd) (.slice aon p.nn.names.length capn))] w fun e w' => RDiskIs X (lostL l p.s) most room e w w' := by
  rw [← lost_at h1 h2]
  exact lose_g X l most room p ao aod aon cap capd capn w hX hg hd hn (by rw [h1]; exact hd.node _) h3 (Go.IntWalk.i64_in _ (by omega))
theorem put_siz {l : List NodeL} (h : Siz 110 130 l) (s : SpotL) (i : Int) : (putN (nodeL l s.dir) s.name i).names.length ≤ 10000 := by
  have h1 := put_len (nodeL l s.dir).names (s.name, i)
  have h2 := (h.node s.dir).2
  show (putL _ _).length ≤ 10000
  omega
set_option maxRecDepth 100000 in
set_option maxHeartbeats 40000000 in
theorem prename_g (X : Nat → Prop) {S : Nat → Addr} (l : List NodeL) (most room who fr who2 fr2 : Int) (old path : Str) (ao : Option Addr) (cap : Nat) (w : World) (hX : Old X w) (hg : GivesX X l (.slice ao l.length cap) w) (hd : Dsk l) (hplold : old.length ≤ 10000) (hplpath : path.length ≤ 10000) (hs : Sent S w) :
    Calls Tryz.prog 30 #[diskV ao l.length cap most room, asV who fr, asV who2 fr2, .string (bs old), .string (bs path)] w fun e w' => ChgIs X (renameL l who fr who2 fr2 old path) most room e w w' := by
  have S0 := Lib.hid (St.start (G := [(l, .slice ao l.length cap)]) (N := []) hX (one_g hg) no_n)
  have HD := Lib.hid hd
  have HS := Lib.hid hs
  have HRET : Hid (∀ (W : World) (cs : Array Value) (fr), W.heap[w.heap.size + 3]? = some (.cells cs 24 fr) → cs.size = 3 → ∀ tmps : Array Value, tmps.getD 10 undef = .pointer (some ⟨w.heap.size + 3, 0, none⟩) → (results Tryz.f30 tmps).run Tryz.prog W = .ok (.tuple #[.agg cs, tmps.getD 11 undef]) W) := Lib.hid fun W cs fr h hs tmps ht =>
  results_ct (p := 10) (u := 11) (ty := 24) rfl tmps W (w.heap.size + 3) _ cs fr _ ht h Tryz.underlying24 rfl (by rw [hs]; kernel_rfl)
  clear hX hg hd hs
  go_enter Tryz.func30, Tryz.ntmps30
  go_upto_region 1 with (fail)
  refine code_fresh4 ?_
  intro W1 hb hA0 hA1 hA2 hA3 hs
  have S1 := Lib.hid (S0.out.new4 hb hA0 hA1 hA2 hA3)
  clear hb hA0 hA1 hA2 hA3 hs
  have h_d := (S1.out.at 0 rfl)
  have h_a := (S1.out.at 1 rfl)
  have h_b := (S1.out.at 2 rfl)
  go_wp2_with (first | (refine wpList_load_row rfl 24 _ rfl _ rfl 24 _ (0, 0) _ h_d Tryz.underlying24 rfl (by kernel_rfl) ?_) | (refine wpList_load_row rfl 26 _ rfl _ rfl 26 _ (0, 0) _ h_a Tryz.underlying26 rfl (by kernel_rfl) ?_) | (refine wpList_load_row rfl 26 _ rfl _ rfl 26 _ (0, 0) _ h_b Tryz.underlying26 rfl (by kernel_rfl) ?_))
  refine (moved_g _ l most room who fr who2 fr2 old path _ _ W1 S1.out.oldX (S1.out.g 0 rfl) HD.out hplold hplpath (HS.out.keep S1.out.bel)).mono ?_
  rintro e W2 ⟨p, q, v, aod, capd, aon, capn, aod2, capd2, aon2, capn2, rfl, hv, hpq, ⟨hn1, hn2, hn3, hn4⟩, hb⟩
  clear h_d h_a h_b
  have S2 := Lib.hid (((((S1.out.call hb).addN hn1).addN hn2).addN hn3).addN hn4)
  clear hb hn1 hn2 hn3 hn4
  obtain ⟨n, hn⟩ : ∃ n, n = movedE l who who2 old path (walkL l who fr old false) (walkL l who2 fr2 path false) := ⟨_, rfl⟩
  rw [← hn] at hv hpq
  have HE := Lib.hid (rename_eq HD.out hn)
  have HNn := Lib.hid hn
  clear hn
  have HV := Lib.hid hv
  have HPQ := Lib.hid hpq
  clear hpq
  go_upto_region 2 with (first | (refine wpList_fresh1 ?_; intro W3 hb hn hs; have S3 := Lib.hid (S2.out.new1 hb hn); clear hb hn hs) | (refine wpList_fresh1 ?_; intro W4 hb hn hs; have S4 := Lib.hid (S3.out.new1 hb hn); have h_f := S4.out.at 4 rfl; have h_t := S4.out.at 5 rfl; clear hb hn hs) | (refine wpList_store_row rfl 93 _ _ rfl _ rfl rfl h_f rfl (by kernel_rfl) rfl ?_; intro W5 hb hg hs hn; have S5 := Lib.hid (S4.out.set 4 rfl hb hg hs hn); clear hb hg hs hn; have h_t := S5.out.at 5 rfl) | (refine wpList_store_row rfl 93 _ _ rfl _ rfl rfl h_t rfl (by kernel_rfl) rfl ?_; intro W6 hb hg hs hn; have S6 := Lib.hid (S5.out.set 5 rfl hb hg hs hn); clear hb hg hs hn))
  clear h_f h_t
  rcases hv.form with ⟨h0, rfl⟩ | ⟨h0, c1, c2, rfl⟩
  · subst h0
    have HP := Lib.hid (HPQ.out rfl).1
    have HQ := Lib.hid (HPQ.out rfl).2
    rw [← HP.out, ← HQ.out] at HE
    clear hv HPQ
    by_cases hi : p.s.ino = q.s.ino
    · have hI : (p.s.ino == q.s.ino) = true := by simpa using hi
      have HE2 := Lib.hid (HE.out.trans (if_pos (.inr hi)))
      clear HE hi
      obtain ⟨-, -, -, -, f4, -, -, -, -, -, -, -, -, -, -, -, -, -, -, -, -, -⟩ := cells22 (S6.out.at 4 rfl)
      obtain ⟨-, -, -, -, t4, -, -, -, -, -, -, -, -, -, -, -, -, -, -, -, -, -⟩ := cells22 (S6.out.at 5 rfl)
      go_upto_region 3 with (fail)
      clear f4 t4
      have h_d := (S6.out.at 0 rfl)
      refine wp_region_held_drew (S := fun W => W.heap[w.heap.size]? = some (.cells #[.slice ao l.length cap, .int .i64 most, .int .i64 room] 24 (0, 0)) ∧ True) (by kernel_rfl) ⟨(S6.out.at 0 rfl), trivial⟩ (fun hHeld => ?_)
      clear h_d
      have S7 := Lib.hid (S6.out.call (Below.refl W6.heap.size W6).drew)
      generalize W6.drew = W7 at *
      refine wpAnyH_take (i := 0) rfl (by kernel_rfl) (by kernel_rfl) (by kernel_rfl) (fun _ _ _ h => h) (yieldsIf_load_row (by rfl) 24 _ rfl _ rfl 24 _ (0, 0) _ (fun _ h => h.1) Tryz.underlying24 rfl (by kernel_rfl)) hHeld ?_
      (try simp only [pt, Act.put])
      refine wpAnyH_take (i := 1) (v := ?v1) rfl (by kernel_rfl) (by kernel_rfl) (by kernel_rfl) (fun _ _ _ h => h) (Or.inl ⟨by rfl, ?hy1⟩) hHeld ?rest1
      case hy1 => (intro w hSw; (try dsimp only at hSw); (try go_split_ands); go_simp; first | done | with_reducible rfl)
      (try simp only [pt, Act.put])
      refine wpAnyH_ready (rs := [2]) (by kernel_rfl) (by simp) ?_
      refine AllReadyH.cons rfl (fun K hK => ?_) AllReadyH.nil
      go_simp
      refine (chg_number (HS.out.keep S7.out.bel) HV.out).mono ?_
      rintro e W8 ⟨rfl, hb⟩
      have S8 := Lib.hid (S7.out.call hb)
      clear hb hHeld
      go_wp2_with fail
      refine hK.out _ _ ⟨(S8.out.at 0 rfl), trivial⟩ (fun hHeld => ?_)
      clear hK K
      (try simp only [pt, Act.put])
      refine wpAnyH_ready (rs := [3]) (by kernel_rfl) (by simp) ?_
      refine AllReadyH.cons rfl (fun K hK => ?_) AllReadyH.nil
      rw [if_pos (by rfl)]
      refine wp_store_row 24 _ _ rfl _ rfl rfl (S8.out.at 3 rfl) rfl (by kernel_rfl) rfl ?_
      intro W9 hb hg hs hn
      have S9 := Lib.hid (S8.out.set 3 rfl hb hg hs hn)
      clear hb hg hs hn hHeld
      refine hK.out _ _ ⟨(S9.out.at 0 rfl), trivial⟩ (fun hHeld => ?_)
      clear hK K
      (try simp only [pt, Act.put])
      refine wpAnyH_take (i := 4) (v := ?v2) rfl (by kernel_rfl) (by kernel_rfl) (by kernel_rfl) (fun _ _ _ h => h) (Or.inl ⟨by rfl, ?hy2⟩) hHeld ?rest2
      case hy2 => (intro w hSw; (try dsimp only at hSw); (try go_split_ands); go_simp; first | done | with_reducible rfl)
      (try simp only [pt, Act.put])
      refine wpAnyH_done (by kernel_rfl) ?_ _
      go_wp2_with fail
      refine bodyPost_ret (HRET.out _ _ _ (S9.out.at 3 rfl) rfl _ rfl) rfl ?_
      rw [HE2.out]
      exact ⟨_, _, rfl, S9.out.gX 0 rfl, S9.out.bel⟩
    · have hI : (p.s.ino == q.s.ino) = false := by simpa using hi
      have HE2 := Lib.hid (HE.out.trans (if_neg (by rintro (h | h); exact h rfl; exact hi h)))
      have HI := Lib.hid hi
      clear HE hi
      obtain ⟨-, -, -, -, f4, -, -, -, -, -, -, -, -, -, -, -, -, -, -, -, -, -⟩ := cells22 (S6.out.at 4 rfl)
      obtain ⟨-, -, -, -, t4, -, -, -, -, -, -, -, -, -, -, -, -, -, -, -, -, -⟩ := cells22 (S6.out.at 5 rfl)
      have h_d := (S6.out.at 0 rfl)
      have h_f := (S6.out.at 4 rfl)
      have h_t := (S6.out.at 5 rfl)
      go_wp2_with (first | (refine wpList_load_row rfl 24 _ rfl _ rfl 24 _ (0, 0) _ h_d Tryz.underlying24 rfl (by kernel_rfl) ?_) | (refine wpList_load_row rfl 93 _ rfl _ rfl 93 _ (0, 0) _ h_f Tryz.underlying93 rfl (by kernel_rfl) ?_) | (refine wpList_load_row rfl 93 _ rfl _ rfl 93 _ (0, 0) _ h_t Tryz.underlying93 rfl (by kernel_rfl) ?_))
      clear hI
      refine (totake_any l most room q p _ _ _ _ _ _ _ W6 (S6.out.g 0 rfl).none HD.out.ord (HS.out.keep S6.out.bel)).mono ?_
      rintro e W7 ⟨v4, rfl, hv4, hb⟩
      clear f4 t4 h_d h_f h_t
      have S7 := Lib.hid (S6.out.call hb)
      clear hb
      obtain ⟨tt, htt⟩ : ∃ t, t = toTakeE l q p := ⟨_, rfl⟩
      rw [← htt] at hv4 HE2
      have HT := Lib.hid htt
      clear htt
      have HV4 := Lib.hid hv4
      rcases hv4.form with ⟨h1, rfl⟩ | ⟨h1, c1, c2, rfl⟩
      · subst h1
        have HE3 := Lib.hid (HE2.out.trans (if_neg (by simp)))
        clear HE2 hv4 HV4
        obtain ⟨hMv, hth, hw2⟩ := moves_of HD.out HNn.out.symm (by rw [← HP.out, ← HQ.out]; exact HI.out) (by rw [← HP.out, ← HQ.out]; exact HT.out.symm)
        have hpi := place_ino (l := l) (who := who) (path := old) (pthere_zero hth).1
        have hqi := place_ino (l := l) (who := who2) (path := path) hw2
        rw [← HP.out] at hpi
        rw [← HQ.out] at hqi
        rw [← hpi.1, ← hqi.1] at hMv
        have hit := ino_there HD.out hw2
        rw [← hqi.1] at hit
        have HPN : Hid (p.nn = nodeL l p.s.ino) := Lib.hid (by rw [hpi.1]; exact hpi.2.2.2)
        have HQN : Hid (q.nn = nodeL l q.s.ino) := Lib.hid (by rw [hqi.1]; exact hqi.2.2.2)
        have HPK := Lib.hid (place_small HD.out who old (walkL l who fr old false))
        have HQK := Lib.hid (place_small HD.out who2 path (walkL l who2 fr2 path false))
        rw [← HP.out] at HPK
        rw [← HQ.out] at HQK
        have HKQ : Hid (0 ≤ q.s.ino → (q.nn.kind = 1 ∨ q.nn.kind = 2 ∨ q.nn.kind = 3)) := Lib.hid (fun h => by
          rw [HQN.out]
          rcases walk_ino HD.out.rig who2 fr2 path false hw2 with h3 | h3
          · rw [← hqi.1] at h3; omega
          · rw [← hqi.1] at h3; exact right_kind HD.out.rig h3)
        have HMv := Lib.hid hMv
        have HIT := Lib.hid hit
        clear hMv hth hw2 hpi hqi hit HP HQ HNn HI HT
        rw [pmove_eq HMv.out] at HE3
        obtain ⟨pw, pp, ⟨sd, sn, si, ss⟩, pd, m⟩ := p
        obtain ⟨qw, qp, ⟨td, tn, ti, ts⟩, qd, qn⟩ := q
        dsimp only at HE3 HPN HQN HPK HQK HKQ HIT HMv
        dsimp only at S7
        go_upto_region 7 with (fail)
        obtain ⟨-, -, f2, f3, f4, f5, -, -, -, -, -, -, -, -, -, -, -, -, -, -, -, -⟩ := cells22 (S7.out.at 4 rfl)
        have hmf := rangeAt4 (o := 2) f2 f3 f4 f5
        clear f2 f3 f4 f5
        have h_d := (S7.out.at 0 rfl)
        go_wp2_with (first | (refine wpList_load_row rfl 24 _ rfl _ rfl 24 _ (0, 0) _ h_d Tryz.underlying24 rfl (by kernel_rfl) ?_) | (refine wpList_load_mid rfl 91 _ rfl _ 2 rfl _ _ hmf Tryz.underlying91 rfl (by kernel_rfl) ?_))
        refine (cdrop_g _ l most room ⟨sd, sn, si, ss⟩ _ _ W7 S7.out.oldX (S7.out.g 0 rfl) HD.out.ord).mono ?_
        rintro e W8 ⟨ao1, cp1, rfl, hg1, hb⟩
        clear hmf h_d
        have S8 := Lib.hid ((S7.out.call hb).addG hg1)
        clear hb hg1
        have HO1 := Lib.hid (HD.out.ord.dropped ⟨sd, sn, si, ss⟩)
        have HS1 : Hid (Siz 110 130 (droppedL l ⟨sd, sn, si, ss⟩)) := Lib.hid (Siz.dropped (a := 110) (c := 130) HD.out.sm _)
        have HQ1 : Hid (0 ≤ ti → qn = nodeL (droppedL l ⟨sd, sn, si, ss⟩) ti) := Lib.hid fun h => HQN.out.trans (node_set_ne (HMv.out.ts h) _).symm
        have HL2 : Hid (movedL l ⟨sd, sn, si, ss⟩ ⟨td, tn, ti, ts⟩ = if 0 ≤ ti then lostL (droppedL l ⟨sd, sn, si, ss⟩) ⟨td, tn, ti, ts⟩ else droppedL l ⟨sd, sn, si, ss⟩) := Lib.hid rfl
        obtain ⟨l1, hl1⟩ : ∃ L, L = droppedL l ⟨sd, sn, si, ss⟩ := ⟨_, rfl⟩
        rw [← hl1] at S8 HO1 HS1 HQ1 HL2 ⊢
        clear hl1
        have h_d := (S8.out.at 0 rfl)
        go_upto_region 8 with (first | (refine wpList_store_row rfl 24 _ _ rfl _ rfl rfl h_d rfl (by kernel_rfl) rfl ?_; intro W9 hb hg hs hn; have S9 := Lib.hid (S8.out.set 0 rfl hb hg hs hn); clear hb hg hs hn))
        clear h_d
        have h_t := (S9.out.at 5 rfl)
        go_wp2_with (first | (refine wpList_load_row rfl 93 _ rfl _ rfl 93 _ (0, 0) _ h_t Tryz.underlying93 rfl (by kernel_rfl) ?_))
        refine (there_any (⟨qw, qp, ⟨td, tn, ti, ts⟩, qd, qn⟩ : PlaceL) _ _ W9).mono ?_
        rintro e W10 ⟨rfl, hb⟩
        clear h_t
        have S10 := Lib.hid (S9.out.call hb)
        clear hb
        rw [HIT.out]
        obtain ⟨l2, hl2⟩ : ∃ L, L = movedL l ⟨sd, sn, si, ss⟩ ⟨td, tn, ti, ts⟩ := ⟨_, rfl⟩
        rw [← hl2] at HE3 HL2
        clear hl2
        by_cases ht : ti < 0
        · have hT : (!decide (ti < 0)) = false := by simpa using ht
          have HL2b := Lib.hid (HL2.out.trans (if_neg (by omega)))
          clear ht HL2
          have HS2 := HS1
          have HO2 := HO1
          rw [← HL2b.out] at HS2 HO2
          rw [← HL2b.out] at S10 ⊢
          go_upto_region 10 with (fail)
          clear hT
          obtain ⟨l3, hl3⟩ : ∃ L, L = namedL l2 ⟨td, tn, ti, ts⟩ si := ⟨_, rfl⟩
          rw [← hl3] at HE3
          have HL3 := Lib.hid hl3
          clear hl3
          obtain ⟨-, -, t2, t3, t4, t5, -, -, -, -, -, -, -, -, -, -, -, -, -, -, -, -⟩ := cells22 (S10.out.at 5 rfl)
          have hmt := rangeAt4 (o := 2) t2 t3 t4 t5
          clear t2 t3 t4 t5
          obtain ⟨-, -, -, -, f4, -, -, -, -, -, -, -, -, -, -, -, -, -, -, -, -, -⟩ := cells22 (S10.out.at 4 rfl)
          have h_d := (S10.out.at 0 rfl)
          go_wp2_with (first | (refine wpList_load_row rfl 24 _ rfl _ rfl 24 _ (0, 0) _ h_d Tryz.underlying24 rfl (by kernel_rfl) ?_) | (refine wpList_load_mid rfl 91 _ rfl _ 2 rfl _ _ hmt Tryz.underlying91 rfl (by kernel_rfl) ?_))
          refine (cput_g _ l2 most room ⟨td, tn, ti, ts⟩ si _ _ W10 S10.out.oldX (S10.out.g 1 rfl) HO2.out (put_siz HS2.out _ _)).mono ?_
          rintro e W11 ⟨ao3, cp3, rfl, hg3, hb⟩
          clear hmt f4 h_d
          have S11 := Lib.hid ((S10.out.call hb).addG hg3)
          clear hb hg3
          rw [← HL3.out] at S11 ⊢
          have HS3 : Hid (l3.length ≤ 10000) := Lib.hid (by rw [HL3.out]; exact Nat.le_trans (Siz.named (a := 110) (c := 130) HS2.out _ _).1 (by decide))
          have h_d := (S11.out.at 0 rfl)
          go_upto_region 11 with (first | (refine wpList_store_row rfl 24 _ _ rfl _ rfl rfl h_d rfl (by kernel_rfl) rfl ?_; intro W12 hb hg hs hn; have S12 := Lib.hid (S11.out.set 0 rfl hb hg hs hn); clear hb hg hs hn))
          clear h_d
          have h_f := (S12.out.at 4 rfl)
          go_wp2_with (first | (refine wpList_load_row rfl 93 _ rfl _ rfl 93 _ (0, 0) _ h_f Tryz.underlying93 rfl (by kernel_rfl) ?_))
          refine (isdir_any (⟨pw, pp, ⟨sd, sn, si, ss⟩, pd, m⟩ : PlaceL) _ _ W12).mono ?_
          rintro e W13 ⟨rfl, hb⟩
          clear h_f
          have S13 := Lib.hid (S12.out.call hb)
          clear hb
          rw [← HPN.out] at HE3
          by_cases hk : m.kind = 2
          · have hK : (m.kind == 2) = true := by simpa using hk
            have HM : Hid (placeN m td = ⟨m.kind, m.mode, m.owner, m.links, m.opn, td, m.data, m.names⟩) := Lib.hid (by unfold placeN; rw [if_pos hk])
            rw [HM.out] at HE3
            clear hk HM
            obtain ⟨-, -, -, -, -, -, -, -, -, -, -, -, -, -, -, -, -, -, -, f19, -, -⟩ := cells22 (S13.out.at 4 rfl)
            have ff := fun j => Lib.frozen_of_heap (S13.out.at 4 rfl) j
            obtain ⟨-, -, t2, -, -, -, -, -, -, -, -, -, -, -, -, -, -, -, -, -, -, -⟩ := cells22 (S13.out.at 5 rfl)
            go_upto_region 13 with (fail)
            clear hK
            refine code_set22_19 (S13.out.at 4 rfl) ?_
            intro W14 hb hg hs hn
            clear f19 ff t2
            have S14 := Lib.hid (S13.out.set 4 rfl hb hg hs hn)
            clear hb hg hs hn
            obtain ⟨-, -, -, -, f4, -, -, -, -, -, -, -, -, -, -, -, -, -, -, -, -, -⟩ := cells22 (S14.out.at 4 rfl)
            have hm := place_node (S14.out.at 4 rfl)
            have h_d := (S14.out.at 0 rfl)
            go_wp2_with (first | (refine wpList_load_row rfl 24 _ rfl _ rfl 24 _ (0, 0) _ h_d Tryz.underlying24 rfl (by kernel_rfl) ?_) | (refine wpList_load_mid rfl 63 _ rfl _ 14 rfl _ _ hm Tryz.underlying63 rfl (by kernel_rfl) ?_))
            refine (set_g _ l3 most room si ⟨m.kind, m.mode, m.owner, m.links, m.opn, td, m.data, m.names⟩ _ _ W14 S14.out.oldX (S14.out.g 2 rfl) HS3.out ((S14.out.n 1 rfl).same rfl) (Nat.le_trans HPK.out.2.1 (by decide))).mono ?_
            rintro e W15 ⟨ao5, cp5, rfl, hg5, hb⟩
            clear f4 hm h_d
            have S15 := Lib.hid ((S14.out.call hb).addG hg5)
            clear hb hg5
            have h_r := (S15.out.at 3 rfl)
            go_wp2_with (first | (refine wpList_store_row rfl 24 _ _ rfl _ rfl rfl h_r rfl (by kernel_rfl) rfl ?_; intro W16 hb hg hs hn; have S16 := Lib.hid (S15.out.set 3 rfl hb hg hs hn); clear hb hg hs hn))
            refine bodyPost_ret (HRET.out _ _ _ (S16.out.at 3 rfl) rfl _ rfl) rfl ?_
            rw [HE3.out]
            exact ⟨_, _, rfl, S16.out.gX 3 rfl, S16.out.bel⟩
          · have hK : (m.kind == 2) = false := by simpa using hk
            have HM : Hid (placeN m td = ⟨m.kind, m.mode, m.owner, m.links, m.opn, m.up, m.data, m.names⟩) := Lib.hid (by unfold placeN; rw [if_neg hk])
            rw [HM.out] at HE3
            clear hk HM
            go_upto_region 13 with (fail)
            clear hK
            obtain ⟨-, -, -, -, f4, -, -, -, -, -, -, -, -, -, -, -, -, -, -, -, -, -⟩ := cells22 (S13.out.at 4 rfl)
            have hm := place_node (S13.out.at 4 rfl)
            have h_d := (S13.out.at 0 rfl)
            go_wp2_with (first | (refine wpList_load_row rfl 24 _ rfl _ rfl 24 _ (0, 0) _ h_d Tryz.underlying24 rfl (by kernel_rfl) ?_) | (refine wpList_load_mid rfl 63 _ rfl _ 14 rfl _ _ hm Tryz.underlying63 rfl (by kernel_rfl) ?_))
            refine (set_g _ l3 most room si ⟨m.kind, m.mode, m.owner, m.links, m.opn, m.up, m.data, m.names⟩ _ _ W13 S13.out.oldX (S13.out.g 2 rfl) HS3.out ((S13.out.n 1 rfl).same rfl) (Nat.le_trans HPK.out.2.1 (by decide))).mono ?_
            rintro e W14 ⟨ao5, cp5, rfl, hg5, hb⟩
            clear f4 hm h_d
            have S14 := Lib.hid ((S13.out.call hb).addG hg5)
            clear hb hg5
            have h_r := (S14.out.at 3 rfl)
            go_wp2_with (first | (refine wpList_store_row rfl 24 _ _ rfl _ rfl rfl h_r rfl (by kernel_rfl) rfl ?_; intro W15 hb hg hs hn; have S15 := Lib.hid (S14.out.set 3 rfl hb hg hs hn); clear hb hg hs hn))
            refine bodyPost_ret (HRET.out _ _ _ (S15.out.at 3 rfl) rfl _ rfl) rfl ?_
            rw [HE3.out]
            exact ⟨_, _, rfl, S15.out.gX 3 rfl, S15.out.bel⟩
        · have hT : (!decide (ti < 0)) = true := by simpa using ht
          have ht0 : 0 ≤ ti := by omega
          have HL2b := Lib.hid (HL2.out.trans (if_pos ht0))
          have HKQ2 := Lib.hid (HKQ.out ht0)
          have HQ2 := Lib.hid (HQ1.out ht0)
          have HTD := Lib.hid (HMv.out.td ht0)
          clear ht ht0 HL2
          have HS2 : Hid (Siz 110 130 l2) := Lib.hid (by rw [HL2b.out]; exact HS1.out.lost _)
          have HO2 : Hid (Ord l2) := Lib.hid (by rw [HL2b.out]; exact HO1.out.lost _)
          have h_d := (S10.out.at 0 rfl)
          have h_t := (S10.out.at 5 rfl)
          go_wp2_with (first | (refine wpList_load_row rfl 24 _ rfl _ rfl 24 _ (0, 0) _ h_d Tryz.underlying24 rfl (by kernel_rfl) ?_) | (refine wpList_load_row rfl 93 _ rfl _ rfl 93 _ (0, 0) _ h_t Tryz.underlying93 rfl (by kernel_rfl) ?_))
          refine (lose_at2 (p := ⟨qw, qp, ⟨td, tn, ti, ts⟩, qd, qn⟩) _ HO1.out most room _ _ _ _ _ _ W10 S10.out.oldX (S10.out.g 1 rfl) (S10.out.n 3 rfl) HQ2.out HTD.out HKQ2.out HQK.out.1).mono ?_
          rintro e W11 ⟨ao2, cp2, rfl, hg2, hb⟩
          clear h_d h_t
          have S11 := Lib.hid ((S10.out.call hb).addG hg2)
          clear hb hg2
          dsimp only at S11
          rw [← HL2b.out] at S11 ⊢
          have h_d := (S11.out.at 0 rfl)
          go_upto_region 10 with (first | (refine wpList_store_row rfl 24 _ _ rfl _ rfl rfl h_d rfl (by kernel_rfl) rfl ?_; intro W12 hb hg hs hn; have S12 := Lib.hid (S11.out.set 0 rfl hb hg hs hn); clear hb hg hs hn))
          clear h_d hT
          obtain ⟨l3, hl3⟩ : ∃ L, L = namedL l2 ⟨td, tn, ti, ts⟩ si := ⟨_, rfl⟩
          rw [← hl3] at HE3
          have HL3 := Lib.hid hl3
          clear hl3
          obtain ⟨-, -, t2, t3, t4, t5, -, -, -, -, -, -, -, -, -, -, -, -, -, -, -, -⟩ := cells22 (S12.out.at 5 rfl)
          have hmt := rangeAt4 (o := 2) t2 t3 t4 t5
          clear t2 t3 t4 t5
          obtain ⟨-, -, -, -, f4, -, -, -, -, -, -, -, -, -, -, -, -, -, -, -, -, -⟩ := cells22 (S12.out.at 4 rfl)
          have h_d := (S12.out.at 0 rfl)
          go_wp2_with (first | (refine wpList_load_row rfl 24 _ rfl _ rfl 24 _ (0, 0) _ h_d Tryz.underlying24 rfl (by kernel_rfl) ?_) | (refine wpList_load_mid rfl 91 _ rfl _ 2 rfl _ _ hmt Tryz.underlying91 rfl (by kernel_rfl) ?_))
          refine (cput_g _ l2 most room ⟨td, tn, ti, ts⟩ si _ _ W12 S12.out.oldX (S12.out.g 2 rfl) HO2.out (put_siz HS2.out _ _)).mono ?_
          rintro e W13 ⟨ao3, cp3, rfl, hg3, hb⟩
          clear hmt f4 h_d
          have S13 := Lib.hid ((S12.out.call hb).addG hg3)
          clear hb hg3
          rw [← HL3.out] at S13 ⊢
          have HS3 : Hid (l3.length ≤ 10000) := Lib.hid (by rw [HL3.out]; exact Nat.le_trans (Siz.named (a := 110) (c := 130) HS2.out _ _).1 (by decide))
          have h_d := (S13.out.at 0 rfl)
          go_upto_region 11 with (first | (refine wpList_store_row rfl 24 _ _ rfl _ rfl rfl h_d rfl (by kernel_rfl) rfl ?_; intro W14 hb hg hs hn; have S14 := Lib.hid (S13.out.set 0 rfl hb hg hs hn); clear hb hg hs hn))
          clear h_d
          have h_f := (S14.out.at 4 rfl)
          go_wp2_with (first | (refine wpList_load_row rfl 93 _ rfl _ rfl 93 _ (0, 0) _ h_f Tryz.underlying93 rfl (by kernel_rfl) ?_))
          refine (isdir_any (⟨pw, pp, ⟨sd, sn, si, ss⟩, pd, m⟩ : PlaceL) _ _ W14).mono ?_
          rintro e W15 ⟨rfl, hb⟩
          clear h_f
          have S15 := Lib.hid (S14.out.call hb)
          clear hb
          rw [← HPN.out] at HE3
          by_cases hk : m.kind = 2
          · have hK : (m.kind == 2) = true := by simpa using hk
            have HM : Hid (placeN m td = ⟨m.kind, m.mode, m.owner, m.links, m.opn, td, m.data, m.names⟩) := Lib.hid (by unfold placeN; rw [if_pos hk])
            rw [HM.out] at HE3
            clear hk HM
            obtain ⟨-, -, -, -, -, -, -, -, -, -, -, -, -, -, -, -, -, -, -, f19, -, -⟩ := cells22 (S15.out.at 4 rfl)
            have ff := fun j => Lib.frozen_of_heap (S15.out.at 4 rfl) j
            obtain ⟨-, -, t2, -, -, -, -, -, -, -, -, -, -, -, -, -, -, -, -, -, -, -⟩ := cells22 (S15.out.at 5 rfl)
            go_upto_region 13 with (fail)
            clear hK
            refine code_set22_19 (S15.out.at 4 rfl) ?_
            intro W16 hb hg hs hn
            clear f19 ff t2
            have S16 := Lib.hid (S15.out.set 4 rfl hb hg hs hn)
            clear hb hg hs hn
            obtain ⟨-, -, -, -, f4, -, -, -, -, -, -, -, -, -, -, -, -, -, -, -, -, -⟩ := cells22 (S16.out.at 4 rfl)
            have hm := place_node (S16.out.at 4 rfl)
            have h_d := (S16.out.at 0 rfl)
            go_wp2_with (first | (refine wpList_load_row rfl 24 _ rfl _ rfl 24 _ (0, 0) _ h_d Tryz.underlying24 rfl (by kernel_rfl) ?_) | (refine wpList_load_mid rfl 63 _ rfl _ 14 rfl _ _ hm Tryz.underlying63 rfl (by kernel_rfl) ?_))
            refine (set_g _ l3 most room si ⟨m.kind, m.mode, m.owner, m.links, m.opn, td, m.data, m.names⟩ _ _ W16 S16.out.oldX (S16.out.g 3 rfl) HS3.out ((S16.out.n 1 rfl).same rfl) (Nat.le_trans HPK.out.2.1 (by decide))).mono ?_
            rintro e W17 ⟨ao5, cp5, rfl, hg5, hb⟩
            clear f4 hm h_d
            have S17 := Lib.hid ((S16.out.call hb).addG hg5)
            clear hb hg5
            have h_r := (S17.out.at 3 rfl)
            go_wp2_with (first | (refine wpList_store_row rfl 24 _ _ rfl _ rfl rfl h_r rfl (by kernel_rfl) rfl ?_; intro W18 hb hg hs hn; have S18 := Lib.hid (S17.out.set 3 rfl hb hg hs hn); clear hb hg hs hn))
            refine bodyPost_ret (HRET.out _ _ _ (S18.out.at 3 rfl) rfl _ rfl) rfl ?_
            rw [HE3.out]
            exact ⟨_, _, rfl, S18.out.gX 4 rfl, S18.out.bel⟩
          · have hK : (m.kind == 2) = false := by simpa using hk
            have HM : Hid (placeN m td = ⟨m.kind, m.mode, m.owner, m.links, m.opn, m.up, m.data, m.names⟩) := Lib.hid (by unfold placeN; rw [if_neg hk])
            rw [HM.out] at HE3
            clear hk HM
            go_upto_region 13 with (fail)
            clear hK
            obtain ⟨-, -, -, -, f4, -, -, -, -, -, -, -, -, -, -, -, -, -, -, -, -, -⟩ := cells22 (S15.out.at 4 rfl)
            have hm := place_node (S15.out.at 4 rfl)
            have h_d := (S15.out.at 0 rfl)
            go_wp2_with (first | (refine wpList_load_row rfl 24 _ rfl _ rfl 24 _ (0, 0) _ h_d Tryz.underlying24 rfl (by kernel_rfl) ?_) | (refine wpList_load_mid rfl 63 _ rfl _ 14 rfl _ _ hm Tryz.underlying63 rfl (by kernel_rfl) ?_))
            refine (set_g _ l3 most room si ⟨m.kind, m.mode, m.owner, m.links, m.opn, m.up, m.data, m.names⟩ _ _ W15 S15.out.oldX (S15.out.g 3 rfl) HS3.out ((S15.out.n 1 rfl).same rfl) (Nat.le_trans HPK.out.2.1 (by decide))).mono ?_
            rintro e W16 ⟨ao5, cp5, rfl, hg5, hb⟩
            clear f4 hm h_d
            have S16 := Lib.hid ((S15.out.call hb).addG hg5)
            clear hb hg5
            have h_r := (S16.out.at 3 rfl)
            go_wp2_with (first | (refine wpList_store_row rfl 24 _ _ rfl _ rfl rfl h_r rfl (by kernel_rfl) rfl ?_; intro W17 hb hg hs hn; have S17 := Lib.hid (S16.out.set 3 rfl hb hg hs hn); clear hb hg hs hn))
            refine bodyPost_ret (HRET.out _ _ _ (S17.out.at 3 rfl) rfl _ rfl) rfl ?_
            rw [HE3.out]
            exact ⟨_, _, rfl, S17.out.gX 4 rfl, S17.out.bel⟩
      · have HE3 := Lib.hid (HE2.out.trans (if_pos h1))
        clear HE2 h1 hv4
        go_upto_region 6 with (fail)
        have h_d := (S7.out.at 0 rfl)
        refine wp_region_held_drew (S := fun W => W.heap[w.heap.size]? = some (.cells #[.slice ao l.length cap, .int .i64 most, .int .i64 room] 24 (0, 0)) ∧ True) (by kernel_rfl) ⟨(S7.out.at 0 rfl), trivial⟩ (fun hHeld => ?_)
        clear h_d
        have S8 := Lib.hid (S7.out.call (Below.refl W7.heap.size W7).drew)
        generalize W7.drew = W8 at *
        refine wpAnyH_take (i := 0) rfl (by kernel_rfl) (by kernel_rfl) (by kernel_rfl) (fun _ _ _ h => h) (yieldsIf_load_row (by rfl) 24 _ rfl _ rfl 24 _ (0, 0) _ (fun _ h => h.1) Tryz.underlying24 rfl (by kernel_rfl)) hHeld ?_
        (try simp only [pt, Act.put])
        refine wpAnyH_take (i := 1) (v := ?v3) rfl (by kernel_rfl) (by kernel_rfl) (by kernel_rfl) (fun _ _ _ h => h) (Or.inl ⟨by rfl, ?hy3⟩) hHeld ?rest3
        case hy3 => (intro w hSw; (try dsimp only at hSw); (try go_split_ands); go_simp; first | done | with_reducible rfl)
        (try simp only [pt, Act.put])
        refine wpAnyH_ready (rs := [2]) (by kernel_rfl) (by simp) ?_
        refine AllReadyH.cons rfl (fun K hK => ?_) AllReadyH.nil
        go_simp
        refine (chg_number (HS.out.keep S8.out.bel) HV4.out).mono ?_
        rintro e W9 ⟨rfl, hb⟩
        have S9 := Lib.hid (S8.out.call hb)
        clear hb hHeld
        go_wp2_with fail
        refine hK.out _ _ ⟨(S9.out.at 0 rfl), trivial⟩ (fun hHeld => ?_)
        clear hK K
        (try simp only [pt, Act.put])
        refine wpAnyH_ready (rs := [3]) (by kernel_rfl) (by simp) ?_
        refine AllReadyH.cons rfl (fun K hK => ?_) AllReadyH.nil
        rw [if_pos (by rfl)]
        refine wp_store_row 24 _ _ rfl _ rfl rfl (S9.out.at 3 rfl) rfl (by kernel_rfl) rfl ?_
        intro W10 hb hg hs hn
        have S10 := Lib.hid (S9.out.set 3 rfl hb hg hs hn)
        clear hb hg hs hn hHeld
        refine hK.out _ _ ⟨(S10.out.at 0 rfl), trivial⟩ (fun hHeld => ?_)
        clear hK K
        (try simp only [pt, Act.put])
        refine wpAnyH_take (i := 4) (v := ?v4) rfl (by kernel_rfl) (by kernel_rfl) (by kernel_rfl) (fun _ _ _ h => h) (Or.inl ⟨by rfl, ?hy4⟩) hHeld ?rest4
        case hy4 => (intro w hSw; (try dsimp only at hSw); (try go_split_ands); go_simp; first | done | with_reducible rfl)
        (try simp only [pt, Act.put])
        refine wpAnyH_done (by kernel_rfl) ?_ _
        go_wp2_with fail
        refine bodyPost_ret (HRET.out _ _ _ (S10.out.at 3 rfl) rfl _ rfl) rfl ?_
        rw [HE3.out]
        exact ⟨_, _, rfl, S10.out.gX 0 rfl, S10.out.bel⟩
  · have HE2 := Lib.hid (HE.out.trans (if_pos (.inl h0)))
    clear HE h0 hv HPQ
    go_upto_region 3 with (fail)
    have h_d := (S6.out.at 0 rfl)
    refine wp_region_held_drew (S := fun W => W.heap[w.heap.size]? = some (.cells #[.slice ao l.length cap, .int .i64 most, .int .i64 room] 24 (0, 0)) ∧ True) (by kernel_rfl) ⟨(S6.out.at 0 rfl), trivial⟩ (fun hHeld => ?_)
    clear h_d
    have S7 := Lib.hid (S6.out.call (Below.refl W6.heap.size W6).drew)
    generalize W6.drew = W7 at *
    refine wpAnyH_take (i := 0) rfl (by kernel_rfl) (by kernel_rfl) (by kernel_rfl) (fun _ _ _ h => h) (yieldsIf_load_row (by rfl) 24 _ rfl _ rfl 24 _ (0, 0) _ (fun _ h => h.1) Tryz.underlying24 rfl (by kernel_rfl)) hHeld ?_
    (try simp only [pt, Act.put])
    refine wpAnyH_take (i := 1) (v := ?v5) rfl (by kernel_rfl) (by kernel_rfl) (by kernel_rfl) (fun _ _ _ h => h) (Or.inl ⟨by rfl, ?hy5⟩) hHeld ?rest5
    case hy5 => (intro w hSw; (try dsimp only at hSw); (try go_split_ands); go_simp; first | done | with_reducible rfl)
    (try simp only [pt, Act.put])
    refine wpAnyH_ready (rs := [2]) (by kernel_rfl) (by simp) ?_
    refine AllReadyH.cons rfl (fun K hK => ?_) AllReadyH.nil
    go_simp
    refine (chg_number (HS.out.keep S7.out.bel) HV.out).mono ?_
    rintro e W8 ⟨rfl, hb⟩
    have S8 := Lib.hid (S7.out.call hb)
    clear hb hHeld
    go_wp2_with fail
    refine hK.out _ _ ⟨(S8.out.at 0 rfl), trivial⟩ (fun hHeld => ?_)
    clear hK K
    (try simp only [pt, Act.put])
    refine wpAnyH_ready (rs := [3]) (by kernel_rfl) (by simp) ?_
    refine AllReadyH.cons rfl (fun K hK => ?_) AllReadyH.nil
    rw [if_pos (by rfl)]
    refine wp_store_row 24 _ _ rfl _ rfl rfl (S8.out.at 3 rfl) rfl (by kernel_rfl) rfl ?_
    intro W9 hb hg hs hn
    have S9 := Lib.hid (S8.out.set 3 rfl hb hg hs hn)
    clear hb hg hs hn hHeld
    refine hK.out _ _ ⟨(S9.out.at 0 rfl), trivial⟩ (fun hHeld => ?_)
    clear hK K
    (try simp only [pt, Act.put])
    refine wpAnyH_take (i := 4) (v := ?v6) rfl (by kernel_rfl) (by kernel_rfl) (by kernel_rfl) (fun _ _ _ h => h) (Or.inl ⟨by rfl, ?hy6⟩) hHeld ?rest6
    case hy6 => (intro w hSw; (try dsimp only at hSw); (try go_split_ands); go_simp; first | done | with_reducible rfl)
    (try simp only [pt, Act.put])
    refine wpAnyH_done (by kernel_rfl) ?_ _
    go_wp2_with fail
    refine bodyPost_ret (HRET.out _ _ _ (S9.out.at 3 rfl) rfl _ rfl) rfl ?_
    rw [HE2.out]
    exact ⟨_, _, rfl, S9.out.gX 0 rfl, S9.out.bel⟩
end Go.Proofs.YtpmhmippoefcfaaGreatDoor
