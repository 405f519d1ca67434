/-
  The program's Symlink, Unlink, Rmdir. A statement's state; the small contracts, of whatever reads as these nodes.
-/
import Derived.RangeFuncNested
import Derived.RangeFuncBound
import Derived.RangeFuncCalls
import Derived.RangeFuncLeaves
import Derived.RangeFuncBox
import Derived.Shelf.Abstract
import Derived.Shelf.RegionOpen
import Derived.WalkKit
import Derived.OwnWalkIn
import Derived.TacticsInMore
import Derived.LoopNIn
import Derived.LoopIn
import Derived.Lib.Hide
import Derived.Outline
import Derived.Deep.QuietTactic
import Derived.Deep.AppendLies
import Derived.BigQuiet
import Derived.Lib.Strings
import Derived.WalkSmall
import Derived.Shelf.Small.Strs
import Derived.Shelf.Strings.Search1
import Derived.Shelf.Strings.Prefix
import Derived.Laws.AppendOwn
import Derived.Laws.OwnMore
import Derived.Laws.AppendOwnNone
import Derived.WideShapes
import Derived.Lib.TrimByte
import Derived.Lib.Bytealg
import Derived.Lib.QuietBelow
import Derived.Deep.DrawnRows
import Derived.Laws.Cover1
import Derived.WalkMore
import Derived.Shelf.Spec.SlicesGrow
import Derived.StillTailTactics
import Derived.Laws.BitsLemmas
import Derived.Laws.RangeAny
import Derived.Laws.Runes
import Derived.Lib.Builder
import Derived.Deep.WholeRow
import Derived.Lib.OthersKept
import Derived.Shelf.SlSorted.Search
import Derived.LaidEql
import Derived.Stop.Asserts
import Derived.RowKitTokens
import Derived.Deep.RegionHeld3
import Derived.Deep.RegionLaw
import Derived.Handy
import Derived.Laws.IdiomCopy
import Derived.Lib.SliceRun
import Derived.Laws.ResultCell
import Derived.Deep.LoopGhost
import Derived.Deep.DeepCutAuto
import Derived.Deep.MidRow
import Derived.BigRegion
import Derived.Test.YtpmhmippoefcfaaGreatDoorProg
import Derived.Test.YtpmhmippoefcfaaGreatDoorShelf
import Derived.Test.YtpmhmippoefcfaaGreatDoorB01
import Derived.Test.YtpmhmippoefcfaaGreatDoorB02
import Derived.Test.YtpmhmippoefcfaaGreatDoorB04
import Derived.Test.YtpmhmippoefcfaaGreatDoorB05
import Derived.Test.YtpmhmippoefcfaaGreatDoorB07
import Derived.Test.YtpmhmippoefcfaaGreatDoorB08
import Derived.Test.YtpmhmippoefcfaaGreatDoorB12
import Derived.Test.YtpmhmippoefcfaaGreatDoorB13
import Derived.Test.YtpmhmippoefcfaaGreatDoorB14
import Derived.Test.YtpmhmippoefcfaaGreatDoorB15
import Derived.Test.YtpmhmippoefcfaaGreatDoorB16
import Derived.Test.YtpmhmippoefcfaaGreatDoorB17
import Derived.Test.YtpmhmippoefcfaaGreatDoorB20
import Derived.Test.YtpmhmippoefcfaaGreatDoorB24
import Derived.Test.YtpmhmippoefcfaaGreatDoorChangeEntersE01
import Derived.Test.YtpmhmippoefcfaaGreatDoorChangeEntersE06
namespace Go.Proofs.YtpmhmippoefcfaaGreatDoor
open Go.RowKit Go.Shelf
attribute [local go_sem ↓] Go.wp_at_zero Go.wp_at_succ
set_option maxRecDepth 100000 in
set_option maxHeartbeats 4000000 in
theorem psymlink_g (X : Nat → Prop) {S : Nat → Addr} (l : List NodeL) (most room who fr : Int) (text path : Str) (ao : Option Addr) (cap : Nat) (w : World) (hX : Old X w) (hg : GivesX X l (.slice ao l.length cap) w) (hd : Dsk l) (hplpath : path.length ≤ 10000) (hs : Sent S w) (htx : text.length ≤ 10000) :
    Calls Tryz.prog 19 #[diskV ao l.length cap most room, asV who fr, .string (bs text), .string (bs path)] w fun e w' => ChgIs X (symlinkL l most room who fr text path) most room e w w' := by
  have S0 := Lib.hid (St.start (G := [(l, .slice ao l.length cap)]) (N := []) hX (one_g hg) no_n)
  have HD := Lib.hid hd
  have HS := Lib.hid hs
  have HRET : Hid (∀ (W : World) (cs : Array Value) (fr), W.heap[w.heap.size + 2]? = some (.cells cs 24 fr) → cs.size = 3 → ∀ tmps : Array Value, tmps.getD 8 undef = .pointer (some ⟨w.heap.size + 2, 0, none⟩) → (results Tryz.f19 tmps).run Tryz.prog W = .ok (.tuple #[.agg cs, tmps.getD 9 undef]) W) := Lib.hid fun W cs fr h hs tmps ht =>
  results_ct (p := 8) (u := 9) (ty := 24) rfl tmps W (w.heap.size + 2) _ cs fr _ ht h Tryz.underlying24 rfl (by rw [hs]; kernel_rfl)
  clear hX hg hd hs
  by_cases t0 : text = []
  · have hI : (text == []) = true := by simpa using t0
    have HE : Hid (symlinkL l most room who fr text path = (l, 2)) := Lib.hid (by unfold symlinkL; rw [if_pos t0])
    clear t0
    go_enter Tryz.func19, Tryz.ntmps19
    go_upto_region 1 with (fail)
    refine code_fresh3 ?_
    intro W1 hb hA0 hA1 hA2 hs
    have S1 := Lib.hid (S0.out.new3 hb hA0 hA1 hA2)
    clear hb hA0 hA1 hA2 hs
    go_upto_region 2 with (fail)
    have h_d := (S1.out.at 0 rfl)
    refine wp_region_held_drew (S := fun W => W.heap[w.heap.size]? = some (.cells #[.slice ao l.length cap, .int .i64 most, .int .i64 room] 24 (0, 0)) ∧ W.cell? ⟨0, 0, none⟩ = some (sentV (S 2)) ∧ True) (by kernel_rfl) ⟨(S1.out.at 0 rfl), (HS.out.keep S1.out.bel).e2, trivial⟩ (fun hHeld => ?_)
    clear h_d
    have S2 := Lib.hid (S1.out.call (Below.refl W1.heap.size W1).drew)
    generalize W1.drew = W2 at *
    refine wpAnyH_take (i := 0) rfl (by kernel_rfl) (by kernel_rfl) (by kernel_rfl) (fun _ _ _ h => h) (yieldsIf_load_row (by rfl) 24 _ rfl _ rfl 24 _ (0, 0) _ (fun _ h => h.1) Tryz.underlying24 rfl (by kernel_rfl)) hHeld ?_
    (try simp only [pt, Act.put])
    refine wpAnyH_take (i := 1) (v := ?v1) rfl (by kernel_rfl) (by kernel_rfl) (by kernel_rfl) (fun _ _ _ h => h) (Or.inl ⟨by rfl, ?hy1⟩) hHeld ?rest1
    case hy1 => (intro w hSw; (try dsimp only at hSw); (try go_split_ands); go_simp; first | done | with_reducible rfl)
    (try simp only [pt, Act.put])
    refine wpAnyH_take (i := 2) (v := ?v2) rfl (by kernel_rfl) (by kernel_rfl) (by kernel_rfl) (fun _ _ _ h => h) (Or.inl ⟨by rfl, ?hy2⟩) hHeld ?rest2
    case hy2 => (intro w hSw; (try dsimp only at hSw); (try go_split_ands); go_simp; first | done | with_reducible rfl)
    (try simp only [pt, Act.put])
    refine wpAnyH_take (i := 3) (v := ?v3) rfl (by kernel_rfl) (by kernel_rfl) (by kernel_rfl) (fun _ _ _ h => h) (Or.inl ⟨by rfl, ?hy3⟩) hHeld ?rest3
    case hy3 => (intro w hSw; (try dsimp only at hSw); (try go_split_ands); go_simp; first | done | with_reducible rfl)
    (try simp only [pt, Act.put])
    refine wpAnyH_take (i := 4) (v := ?v4) rfl (by kernel_rfl) (by kernel_rfl) (by kernel_rfl) (fun _ _ _ h => h) (Or.inl ⟨by rfl, ?hy4⟩) hHeld ?rest4
    case hy4 => (intro w hSw; (try dsimp only at hSw); (try go_split_ands); go_simp; first | done | with_reducible rfl)
    (try simp only [pt, Act.put])
    refine wpAnyH_ready (rs := [5]) (by kernel_rfl) (by simp) ?_
    refine AllReadyH.cons rfl (fun K hK => ?_) AllReadyH.nil
    go_simp
    refine (chg_number (HS.out.keep S2.out.bel) (ErrIs.sent 2 (by decide) (bs text))).mono ?_
    rintro e W3 ⟨rfl, hb⟩
    have S3 := Lib.hid (S2.out.call hb)
    clear hb hHeld
    go_wp2_with fail
    refine hK.out _ _ ⟨(S3.out.at 0 rfl), (HS.out.keep S3.out.bel).e2, trivial⟩ (fun hHeld => ?_)
    clear hK K
    (try simp only [pt, Act.put])
    refine wpAnyH_ready (rs := [6]) (by kernel_rfl) (by simp) ?_
    refine AllReadyH.cons rfl (fun K hK => ?_) AllReadyH.nil
    rw [if_pos (by rfl)]
    refine wp_store_row 24 _ _ rfl _ rfl rfl (S3.out.at 2 rfl) rfl (by kernel_rfl) rfl ?_
    intro W4 hb hg hs hn
    have S4 := Lib.hid (S3.out.set 2 rfl hb hg hs hn)
    clear hb hg hs hn hHeld
    refine hK.out _ _ ⟨(S4.out.at 0 rfl), (HS.out.keep S4.out.bel).e2, trivial⟩ (fun hHeld => ?_)
    clear hK K
    (try simp only [pt, Act.put])
    refine wpAnyH_take (i := 7) (v := ?v5) rfl (by kernel_rfl) (by kernel_rfl) (by kernel_rfl) (fun _ _ _ h => h) (Or.inl ⟨by rfl, ?hy5⟩) hHeld ?rest5
    case hy5 => (intro w hSw; (try dsimp only at hSw); (try go_split_ands); go_simp; first | done | with_reducible rfl)
    (try simp only [pt, Act.put])
    refine wpAnyH_done (by kernel_rfl) ?_ _
    go_wp2_with fail
    refine bodyPost_ret (HRET.out _ _ _ (S4.out.at 2 rfl) rfl _ rfl) rfl ?_
    rw [HE.out]
    exact ⟨_, _, rfl, S4.out.gX 0 rfl, S4.out.bel⟩
  have hI : (text == []) = false := by simpa using t0
  by_cases t1 : 100 < text.length
  · have hJ : decide ((100 : Int) < (text.length : Int)) = true := decide_eq_true (by omega)
    have HE : Hid (symlinkL l most room who fr text path = (l, 9)) := Lib.hid (by unfold symlinkL; rw [if_neg t0, if_pos t1])
    clear t0 t1
    go_enter Tryz.func19, Tryz.ntmps19
    go_upto_region 1 with (fail)
    refine code_fresh3 ?_
    intro W1 hb hA0 hA1 hA2 hs
    have S1 := Lib.hid (S0.out.new3 hb hA0 hA1 hA2)
    clear hb hA0 hA1 hA2 hs
    go_upto_region 4 with (fail)
    have h_d := (S1.out.at 0 rfl)
    refine wp_region_held_drew (S := fun W => W.heap[w.heap.size]? = some (.cells #[.slice ao l.length cap, .int .i64 most, .int .i64 room] 24 (0, 0)) ∧ W.cell? ⟨1, 0, none⟩ = some (sentV (S 9)) ∧ True) (by kernel_rfl) ⟨(S1.out.at 0 rfl), (HS.out.keep S1.out.bel).e9, trivial⟩ (fun hHeld => ?_)
    clear h_d
    have S2 := Lib.hid (S1.out.call (Below.refl W1.heap.size W1).drew)
    generalize W1.drew = W2 at *
    refine wpAnyH_take (i := 0) rfl (by kernel_rfl) (by kernel_rfl) (by kernel_rfl) (fun _ _ _ h => h) (yieldsIf_load_row (by rfl) 24 _ rfl _ rfl 24 _ (0, 0) _ (fun _ h => h.1) Tryz.underlying24 rfl (by kernel_rfl)) hHeld ?_
    (try simp only [pt, Act.put])
    refine wpAnyH_take (i := 1) (v := ?v6) rfl (by kernel_rfl) (by kernel_rfl) (by kernel_rfl) (fun _ _ _ h => h) (Or.inl ⟨by rfl, ?hy6⟩) hHeld ?rest6
    case hy6 => (intro w hSw; (try dsimp only at hSw); (try go_split_ands); go_simp; first | done | with_reducible rfl)
    (try simp only [pt, Act.put])
    refine wpAnyH_take (i := 2) (v := ?v7) rfl (by kernel_rfl) (by kernel_rfl) (by kernel_rfl) (fun _ _ _ h => h) (Or.inl ⟨by rfl, ?hy7⟩) hHeld ?rest7
    case hy7 => (intro w hSw; (try dsimp only at hSw); (try go_split_ands); go_simp; first | done | with_reducible rfl)
    (try simp only [pt, Act.put])
    refine wpAnyH_take (i := 3) (v := ?v8) rfl (by kernel_rfl) (by kernel_rfl) (by kernel_rfl) (fun _ _ _ h => h) (Or.inl ⟨by rfl, ?hy8⟩) hHeld ?rest8
    case hy8 => (intro w hSw; (try dsimp only at hSw); (try go_split_ands); go_simp; first | done | with_reducible rfl)
    (try simp only [pt, Act.put])
    refine wpAnyH_take (i := 4) (v := ?v9) rfl (by kernel_rfl) (by kernel_rfl) (by kernel_rfl) (fun _ _ _ h => h) (Or.inl ⟨by rfl, ?hy9⟩) hHeld ?rest9
    case hy9 => (intro w hSw; (try dsimp only at hSw); (try go_split_ands); go_simp; first | done | with_reducible rfl)
    (try simp only [pt, Act.put])
    refine wpAnyH_ready (rs := [5]) (by kernel_rfl) (by simp) ?_
    refine AllReadyH.cons rfl (fun K hK => ?_) AllReadyH.nil
    go_simp
    refine (chg_number (HS.out.keep S2.out.bel) (ErrIs.sent 9 (by decide) (bs text))).mono ?_
    rintro e W3 ⟨rfl, hb⟩
    have S3 := Lib.hid (S2.out.call hb)
    clear hb hHeld
    go_wp2_with fail
    refine hK.out _ _ ⟨(S3.out.at 0 rfl), (HS.out.keep S3.out.bel).e9, trivial⟩ (fun hHeld => ?_)
    clear hK K
    (try simp only [pt, Act.put])
    refine wpAnyH_ready (rs := [6]) (by kernel_rfl) (by simp) ?_
    refine AllReadyH.cons rfl (fun K hK => ?_) AllReadyH.nil
    rw [if_pos (by rfl)]
    refine wp_store_row 24 _ _ rfl _ rfl rfl (S3.out.at 2 rfl) rfl (by kernel_rfl) rfl ?_
    intro W4 hb hg hs hn
    have S4 := Lib.hid (S3.out.set 2 rfl hb hg hs hn)
    clear hb hg hs hn hHeld
    refine hK.out _ _ ⟨(S4.out.at 0 rfl), (HS.out.keep S4.out.bel).e9, trivial⟩ (fun hHeld => ?_)
    clear hK K
    (try simp only [pt, Act.put])
    refine wpAnyH_take (i := 7) (v := ?v10) rfl (by kernel_rfl) (by kernel_rfl) (by kernel_rfl) (fun _ _ _ h => h) (Or.inl ⟨by rfl, ?hy10⟩) hHeld ?rest10
    case hy10 => (intro w hSw; (try dsimp only at hSw); (try go_split_ands); go_simp; first | done | with_reducible rfl)
    (try simp only [pt, Act.put])
    refine wpAnyH_done (by kernel_rfl) ?_ _
    go_wp2_with fail
    refine bodyPost_ret (HRET.out _ _ _ (S4.out.at 2 rfl) rfl _ rfl) rfl ?_
    rw [HE.out]
    exact ⟨_, _, rfl, S4.out.gX 0 rfl, S4.out.bel⟩
  have hJ : decide ((100 : Int) < (text.length : Int)) = false := decide_eq_false (by omega)
  have HT : Hid (text.length ≤ 300) := Lib.hid (by omega)
  have HE := Lib.hid (symlink_eq HD.out most room who fr path t0 t1)
  clear t0 t1
  go_enter Tryz.func19, Tryz.ntmps19
  go_upto_region 1 with (fail)
  refine code_fresh3 ?_
  intro W1 hb hA0 hA1 hA2 hs
  have S1 := Lib.hid (S0.out.new3 hb hA0 hA1 hA2)
  clear hb hA0 hA1 hA2 hs
  have h_d := (S1.out.at 0 rfl)
  have h_a := (S1.out.at 1 rfl)
  go_wp2_with (first | (refine wpList_load_row rfl 24 _ rfl _ rfl 24 _ (0, 0) _ h_d Tryz.underlying24 rfl (by kernel_rfl) ?_) | (refine wpList_load_row rfl 26 _ rfl _ rfl 26 _ (0, 0) _ h_a Tryz.underlying26 rfl (by kernel_rfl) ?_))
  refine (penter_g (m := linkN text) _ l most room who fr path _ _ _ _ W1 S1.out.oldX (S1.out.g 0 rfl) HD.out hplpath (HS.out.keep S1.out.bel) (node_nil rfl) ⟨HT.out, Nat.zero_le _⟩ List.Pairwise.nil (.inr (.inr rfl))).mono ?_
  rintro e W2 ⟨ao1, cp1, rfl, hg1, hb⟩
  clear h_d h_a
  have S2 := Lib.hid ((S1.out.call hb).addG hg1)
  clear hb hg1
  go_upto_region 6 with (first | (refine wpList_fresh1 ?_; intro W3 hb hn hs; have S3 := Lib.hid (S2.out.new1 hb hn); have h_e := S3.out.at 3 rfl; clear hb hn hs) | (refine wpList_store_row rfl 24 _ _ rfl _ rfl rfl h_e rfl (by kernel_rfl) rfl ?_; intro W4 hb hg hs hn; have S4 := Lib.hid (S3.out.set 3 rfl hb hg hs hn); clear hb hg hs hn))
  clear h_e
  have h_e := (S4.out.at 3 rfl)
  have h_r := (S4.out.at 2 rfl)
  go_wp2_with (first | (refine wpList_load_row rfl 24 _ rfl _ rfl 24 _ (0, 0) _ h_e Tryz.underlying24 rfl (by kernel_rfl) ?_) | (refine wpList_store_row rfl 24 _ _ rfl _ rfl rfl h_r rfl (by kernel_rfl) rfl ?_; intro W5 hb hg hs hn; have S5 := Lib.hid (S4.out.set 2 rfl hb hg hs hn); clear hb hg hs hn))
  refine bodyPost_ret (HRET.out _ _ _ (S5.out.at 2 rfl) rfl _ rfl) rfl ?_
  rw [HE.out]
  exact ⟨_, _, rfl, S5.out.gX 1 rfl, S5.out.bel⟩
end Go.Proofs.YtpmhmippoefcfaaGreatDoor
namespace Go.Proofs.YtpmhmippoefcfaaGreatDoor
open Go.RowKit Go.Shelf
attribute [local go_sem ↓] Go.wp_at_zero Go.wp_at_succ
theorem its_f (l : List NodeL) (a b : Int) (hl : l.length ≤ 10000) (hnl : ∀ n ∈ l, n.names.length ≤ 10000) (v : Value) (W : World) (hg : GivesN l v W) :
    Calls Tryz.prog 13 #[.agg #[v, .int .i64 a, .int .i64 b]] W fun e w' => ∃ ao cap, e = .returned (diskV ao l.length cap a b) ∧ GivesN l (.slice ao l.length cap) w' ∧ Below W.heap.size W w' := by
  refine (its_g l a b hl hnl v W hg).mono ?_
  rintro e w' ⟨v', rfl, h1, h2⟩
  obtain ⟨ao, cap, rfl⟩ := gives_form (gives_no h1)
  exact ⟨ao, cap, rfl, h1, h2⟩
theorem same_g (l : List NodeL) (a b : Int) (hl : l.length ≤ 10000) (hnl : ∀ n ∈ l, n.names.length ≤ 10000) (v v' : Value) (W : World) (hg : GivesN l v W) (hg' : GivesN l v' W) :
    Calls Tryz.prog 21 #[.agg #[v, .int .i64 a, .int .i64 b], .agg #[v', .int .i64 a, .int .i64 b]] W fun e w' => e = .returned (.bool true) ∧ Below W.heap.size W w' := by
  obtain ⟨m, rfl, h⟩ := hg
  obtain ⟨m', h1, h'⟩ := hg'
  have := sameD_any v v' m m' a b a b W h h' (by rw [← pl_len]; exact hl) hnl (by rw [h1]; exact hnl)
  rw [h1] at this
  have e : sameD (pl m) (pl m) a b a b = true := by unfold sameD; simp
  rw [e] at this
  exact this
/-- A disk, told with an error, in no block of X. -/
def ChgX (X : Nat → Prop) (l : List NodeL) (n most room : Int) (e : Ending) (w w' : World) : Prop :=
  ∃ ao cap, e = .returned (.tuple #[diskV ao l.length cap most room, .int .i64 n]) ∧ GivesX X l (.slice ao l.length cap) w' ∧ Below w.heap.size w w'
def MakX (X : Nat → Prop) (l : List NodeL) (i n most room : Int) (e : Ending) (w w' : World) : Prop :=
  ∃ ao cap, e = .returned (.tuple #[diskV ao l.length cap most room, .int .i64 i, .int .i64 n]) ∧ GivesX X l (.slice ao l.length cap) w' ∧ Below w.heap.size w w'
/-- What a region that draws leaves: a disk in a new block. -/
def CutD (W : World) (l : List NodeL) (most room : Int) (t : TypeId) (s : Value) (W' : World) : Prop :=
  ∃ b ao cap, s = .pointer (some ⟨b, 0, none⟩) ∧ W'.heap[b]? = some (.cells #[.slice ao l.length cap, .int .i64 most, .int .i64 room] t (0, 0)) ∧ GivesN l (.slice ao l.length cap) W' ∧ Below W.heap.size W W'
theorem Sn.add1 {w W W' : World} {B : List Bl} {G : List (List NodeL × Value)} {N : List (NodeL × Value)} (h : Sn w B G N W) (hb : Below W.heap.size W W') {b : Nat} {cs : Array Value} {t : TypeId} (h0 : W'.heap[b]? = some (.cells cs t (0, 0))) : Sn w (B ++ [(b, cs, t)]) G N W' :=
  h.news hb _ (fun x hx => by
    simp only [List.mem_cons, List.not_mem_nil, or_false] at hx
    subst hx
    exact h0)
end Go.Proofs.YtpmhmippoefcfaaGreatDoor
