/-
  The program's lose, enter.
-/
import Derived.RangeFuncNested
import Derived.RangeFuncBound
import Derived.RangeFuncCalls
import Derived.RangeFuncLeaves
import Derived.RangeFuncBox
import Derived.Shelf.Abstract
import Derived.Shelf.RegionOpen
import Derived.WalkKit
import Derived.OwnWalkIn
import Derived.TacticsInMore
import Derived.LoopNIn
import Derived.LoopIn
import Derived.Lib.Hide
import Derived.Outline
import Derived.Deep.QuietTactic
import Derived.Deep.AppendLies
import Derived.BigQuiet
import Derived.Lib.Strings
import Derived.WalkSmall
import Derived.Shelf.Small.Strs
import Derived.Shelf.Strings.Search1
import Derived.Shelf.Strings.Prefix
import Derived.Laws.AppendOwn
import Derived.Laws.OwnMore
import Derived.Laws.AppendOwnNone
import Derived.WideShapes
import Derived.Lib.TrimByte
import Derived.Lib.Bytealg
import Derived.Lib.QuietBelow
import Derived.Deep.DrawnRows
import Derived.Laws.Cover1
import Derived.WalkMore
import Derived.Shelf.Spec.SlicesGrow
import Derived.StillTailTactics
import Derived.Laws.BitsLemmas
import Derived.Laws.RangeAny
import Derived.Laws.Runes
import Derived.Lib.Builder
import Derived.Deep.WholeRow
import Derived.Lib.OthersKept
import Derived.Shelf.SlSorted.Search
import Derived.LaidEql
import Derived.Stop.Asserts
import Derived.RowKitTokens
import Derived.Deep.RegionHeld3
import Derived.Deep.RegionLaw
import Derived.Handy
import Derived.Laws.IdiomCopy
import Derived.Lib.SliceRun
import Derived.Laws.ResultCell
import Derived.Deep.LoopGhost
import Derived.Deep.DeepCutAuto
import Derived.Deep.MidRow
import Derived.BigRegion
import Derived.Test.YtpmhmippoefcfaaGreatDoorProg
import Derived.Test.YtpmhmippoefcfaaGreatDoorShelf
import Derived.Test.YtpmhmippoefcfaaGreatDoorB01
import Derived.Test.YtpmhmippoefcfaaGreatDoorB02
import Derived.Test.YtpmhmippoefcfaaGreatDoorB04
import Derived.Test.YtpmhmippoefcfaaGreatDoorB05
import Derived.Test.YtpmhmippoefcfaaGreatDoorB06
import Derived.Test.YtpmhmippoefcfaaGreatDoorB07
import Derived.Test.YtpmhmippoefcfaaGreatDoorB08
import Derived.Test.YtpmhmippoefcfaaGreatDoorB10
import Derived.Test.YtpmhmippoefcfaaGreatDoorB12
import Derived.Test.YtpmhmippoefcfaaGreatDoorB13
import Derived.Test.YtpmhmippoefcfaaGreatDoorB14
import Derived.Test.YtpmhmippoefcfaaGreatDoorB16
import Derived.Test.YtpmhmippoefcfaaGreatDoorB17
namespace Go.Proofs.YtpmhmippoefcfaaGreatDoor
open Go.RowKit Go.Shelf
attribute [local go_sem ↓] Go.wp_at_zero Go.wp_at_succ
theorem rangeAt4 {W : World} {b o : Nat} {v0 v1 v2 v3 : Value} (h0 : W.cell? ⟨b, o, none⟩ = some v0) (h1 : W.cell? ⟨b, o + 1, none⟩ = some v1) (h2 : W.cell? ⟨b, o + 2, none⟩ = some v2) (h3 : W.cell? ⟨b, o + 3, none⟩ = some v3) : W.rangeAt b o [v0, v1, v2, v3] := by
  intro j v hv
  rcases j with _ | _ | _ | _ | j
  · obtain rfl := Option.some.inj hv; exact h0
  · obtain rfl := Option.some.inj hv; exact h1
  · obtain rfl := Option.some.inj hv; exact h2
  · obtain rfl := Option.some.inj hv; exact h3
  · simp at hv
theorem rangeAt8 {W : World} {b o : Nat} {v0 v1 v2 v3 v4 v5 v6 v7 : Value} (h0 : W.cell? ⟨b, o, none⟩ = some v0) (h1 : W.cell? ⟨b, o + 1, none⟩ = some v1) (h2 : W.cell? ⟨b, o + 2, none⟩ = some v2) (h3 : W.cell? ⟨b, o + 3, none⟩ = some v3) (h4 : W.cell? ⟨b, o + 4, none⟩ = some v4) (h5 : W.cell? ⟨b, o + 5, none⟩ = some v5) (h6 : W.cell? ⟨b, o + 6, none⟩ = some v6) (h7 : W.cell? ⟨b, o + 7, none⟩ = some v7) : W.rangeAt b o [v0, v1, v2, v3, v4, v5, v6, v7] := by
  intro j v hv
  rcases j with _ | _ | _ | _ | _ | _ | _ | _ | j
  · obtain rfl := Option.some.inj hv; exact h0
  · obtain rfl := Option.some.inj hv; exact h1
  · obtain rfl := Option.some.inj hv; exact h2
  · obtain rfl := Option.some.inj hv; exact h3
  · obtain rfl := Option.some.inj hv; exact h4
  · obtain rfl := Option.some.inj hv; exact h5
  · obtain rfl := Option.some.inj hv; exact h6
  · obtain rfl := Option.some.inj hv; exact h7
  · simp at hv
theorem code_set22_17 {P : Program} {a : Act} {w : World} {c : Code} {K : Exit → Act → World → Prop} {b : Nat} {v u0 u1 u2 u3 u4 u5 u6 u7 u8 u9 u10 u11 u12 u13 u14 u15 u16 u17 u18 u19 u20 u21 : Value} {t : TypeId} (hb : w.heap[b]? = some (.cells #[u0, u1, u2, u3, u4, u5, u6, u7, u8, u9, u10, u11, u12, u13, u14, u15, u16, u17, u18, u19, u20, u21] t (0, 0)))
    (h : ∀ W', Below b w W' → (∀ g, g ≠ b → W'.heap[g]? = w.heap[g]?) → W'.heap.size = w.heap.size → W'.heap[b]? = some (.cells #[u0, u1, u2, u3, u4, u5, u6, u7, u8, u9, u10, u11, u12, u13, u14, u15, u16, v, u18, u19, u20, u21] t (0, 0)) → c.wp P K a W') : c.wp P K a (w.setCell ⟨b, 17, none⟩ v) :=
  code_set1 hb fun W' h1 h2 h3 h4 => h W' h1 h2 h3 (h4.trans (by simp))
theorem code_set22_19 {P : Program} {a : Act} {w : World} {c : Code} {K : Exit → Act → World → Prop} {b : Nat} {v u0 u1 u2 u3 u4 u5 u6 u7 u8 u9 u10 u11 u12 u13 u14 u15 u16 u17 u18 u19 u20 u21 : Value} {t : TypeId} (hb : w.heap[b]? = some (.cells #[u0, u1, u2, u3, u4, u5, u6, u7, u8, u9, u10, u11, u12, u13, u14, u15, u16, u17, u18, u19, u20, u21] t (0, 0)))
    (h : ∀ W', Below b w W' → (∀ g, g ≠ b → W'.heap[g]? = w.heap[g]?) → W'.heap.size = w.heap.size → W'.heap[b]? = some (.cells #[u0, u1, u2, u3, u4, u5, u6, u7, u8, u9, u10, u11, u12, u13, u14, u15, u16, u17, u18, v, u20, u21] t (0, 0)) → c.wp P K a W') : c.wp P K a (w.setCell ⟨b, 19, none⟩ v) :=
  code_set1 hb fun W' h1 h2 h3 h4 => h W' h1 h2 h3 (h4.trans (by simp))
theorem place_node {W : World} {b : Nat} {u0 u1 u2 u3 u4 u5 u6 u7 u8 u9 u10 u11 u12 u13 u14 u15 u16 u17 u18 u19 u20 u21 : Value} {t : TypeId} {f : Nat × Nat} (h : W.heap[b]? = some (.cells #[u0, u1, u2, u3, u4, u5, u6, u7, u8, u9, u10, u11, u12, u13, u14, u15, u16, u17, u18, u19, u20, u21] t f)) : W.rangeAt b 14 [u14, u15, u16, u17, u18, u19, u20, u21] := by
  obtain ⟨-, -, -, -, -, -, -, -, -, -, -, -, -, -, h14, h15, h16, h17, h18, h19, h20, h21⟩ := cells22 h
  exact rangeAt8 (o := 14) h14 h15 h16 h17 h18 h19 h20 h21
set_option maxRecDepth 100000 in
set_option maxHeartbeats 4000000 in
theorem lose_g (X : Nat → Prop) (l : List NodeL) (most room : Int) (p : PlaceL) (ao aod aon : Option Addr) (cap capd capn : Nat) (w : World) (hX : Old X w) (hg : GivesX X l (.slice ao l.length cap) w) (hd : Ord l)
    (hn : NodeX X p.nn (.slice aon p.nn.names.length capn) w) (hnn : p.nn.names.length ≤ 10000 ∧ Up p.nn.names) (hk : p.nn.kind = 1 ∨ p.nn.kind = 2 ∨ p.nn.kind = 3) (hw : IntKind.i64.wrap (p.nn.links - 1) = p.nn.links - 1) :
    Calls Tryz.prog 57 #[diskV ao l.length cap most room, .agg (pcells p (.slice aod p.dn.names.length capd) (.slice aon p.nn.names.length capn))] w fun e w' => RDiskIs X (settleL (setL (droppedL l p.s) p.s.ino (lessN p.nn)) p.s.ino) most room e w w' := by
  have S0 := Lib.hid (St.start (G := [(l, .slice ao l.length cap)]) (N := [(p.nn, .slice aon p.nn.names.length capn)]) hX (one_g hg) (one_n hn))
  have HD := Lib.hid hd
  have HNN := Lib.hid hnn
  have HRET : Hid (∀ (W : World) (cs : Array Value) (fr), W.heap[w.heap.size + 2]? = some (.cells cs 24 fr) → cs.size = 3 → ∀ tmps : Array Value, tmps.getD 4 undef = .pointer (some ⟨w.heap.size + 2, 0, none⟩) → (results Tryz.f57 tmps).run Tryz.prog W = .ok (.agg cs) W) := Lib.hid fun W cs fr h hs tmps ht =>
  results_cell_row (p := 4)  (ty := 24) rfl tmps W (w.heap.size + 2) _ cs fr _ ht h Tryz.underlying24 rfl (by rw [hs]; kernel_rfl)
  obtain ⟨pw, pp, ⟨sd, sn, si, ss⟩, pd, m⟩ := p
  dsimp only at S0 hk hw HNN ⊢
  clear hX hg hd hn hnn
  go_enter Tryz.func57, Tryz.ntmps57
  go_upto_region 1 with (fail)
  refine code_fresh3 ?_
  intro W1 hb hA0 hA1 hA2 hs
  have S1 := Lib.hid (S0.out.new3 hb hA0 hA1 hA2)
  clear hb hA0 hA1 hA2 hs
  obtain ⟨-, -, p2, p3, p4, p5, -, -, -, -, -, -, -, -, -, -, -, -, -, -, -, -⟩ := cells22 (S1.out.at 1 rfl)
  have hm := rangeAt4 (o := 2) p2 p3 p4 p5
  have h_d := (S1.out.at 0 rfl)
  go_wp2_with (first | (refine wpList_load_row rfl 24 _ rfl _ rfl 24 _ (0, 0) _ h_d Tryz.underlying24 rfl (by kernel_rfl) ?_) | (refine wpList_load_mid rfl 91 _ rfl _ 2 rfl _ _ hm Tryz.underlying91 rfl (by kernel_rfl) ?_))
  refine (cdrop_g _ l most room ⟨sd, sn, si, ss⟩ _ _ W1 S1.out.oldX (S1.out.g 0 rfl) HD.out).mono ?_
  rintro e W2 ⟨ao1, cp1, rfl, hg1, hb⟩
  clear p2 p3 p4 p5 hm h_d
  have S2 := Lib.hid ((S1.out.call hb).addG hg1)
  clear hb hg1
  have HO1 := Lib.hid (HD.out.dropped ⟨sd, sn, si, ss⟩)
  obtain ⟨l1, hl1⟩ : ∃ L, L = droppedL l ⟨sd, sn, si, ss⟩ := ⟨_, rfl⟩
  rw [← hl1] at S2 HO1 ⊢
  have HL1 := Lib.hid hl1
  clear hl1
  have h_d := (S2.out.at 0 rfl)
  go_upto_region 2 with (first | (refine wpList_store_row rfl 24 _ _ rfl _ rfl rfl h_d rfl (by kernel_rfl) rfl ?_; intro W3 hb hg hs hn; have S3 := Lib.hid (S2.out.set 0 rfl hb hg hs hn); clear hb hg hs hn))
  clear h_d
  rcases hk with hk | hk | hk
  · have hI2 : (m.kind == 2) = false := by rw [hk]; rfl
    have hI1 : (m.kind == 1) = true := by rw [hk]; rfl
    have hI3 : (m.kind == 3) = false := by rw [hk]; rfl
    have HL : Hid (lessN m = ⟨m.kind, m.mode, m.owner, m.links - 1, m.opn, m.up, m.data, m.names⟩) := Lib.hid (by unfold lessN; rw [if_neg (by rw [hk]; decide)])
    clear hk
    obtain ⟨-, -, -, -, -, -, -, -, -, -, -, -, -, -, p14, -, -, p17, -, -, -, -⟩ := cells22 (S3.out.at 1 rfl)
    have fp := fun j => Lib.frozen_of_heap (S3.out.at 1 rfl) j
    go_upto_region 8 with (fail)
    refine code_set22_17 (S3.out.at 1 rfl) ?_
    intro W4 hb hg hs hn
    clear p14 p17 fp
    have S4 := Lib.hid (S3.out.set 1 rfl hb hg hs hn)
    clear hb hg hs hn
    have h_d := (S4.out.at 0 rfl)
    refine wp_region_held_drew (S := fun W => W.heap[w.heap.size]? = some (.cells #[.slice ao1 l1.length cp1, .int .i64 most, .int .i64 room] 24 (0, 0)) ∧ W.cell? ⟨w.heap.size + 1, 4, none⟩ = some (.int .i64 si) ∧ W.rangeAt (w.heap.size + 1) 14 [.int .i64 m.kind, .int .i64 m.mode, .int .i64 m.owner, .int .i64 (m.links - 1), .int .i64 m.opn, .int .i64 m.up, .string (bs m.data), .slice aon m.names.length capn] ∧ True) (by kernel_rfl) ⟨(S4.out.at 0 rfl), (cells22 (S4.out.at 1 rfl)).2.2.2.2.1, (place_node (S4.out.at 1 rfl)), trivial⟩ (fun hHeld => ?_)
    clear h_d
    have S5 := Lib.hid (S4.out.call (Below.refl W4.heap.size W4).drew)
    generalize W4.drew = W5 at *
    refine wpAnyH_take (i := 0) rfl (by kernel_rfl) (by kernel_rfl) (by kernel_rfl) (fun _ _ _ h => h) (yieldsIf_load_row (by rfl) 24 _ rfl _ rfl 24 _ (0, 0) _ (fun _ h => h.1) Tryz.underlying24 rfl (by kernel_rfl)) hHeld ?_
    (try simp only [pt, Act.put])
    refine wpAnyH_take (i := 1) (v := ?v1) rfl (by kernel_rfl) (by kernel_rfl) (by kernel_rfl) (fun _ _ _ h => h) (Or.inl ⟨by rfl, ?hy1⟩) hHeld ?rest1
    case hy1 => (intro w hSw; (try dsimp only at hSw); (try go_split_ands); go_simp; first | done | with_reducible rfl)
    (try simp only [pt, Act.put])
    refine wpAnyH_take (i := 2) (v := ?v2) rfl (by kernel_rfl) (by kernel_rfl) (by kernel_rfl) (fun _ _ _ h => h) (Or.inl ⟨by rfl, ?hy2⟩) hHeld ?rest2
    case hy2 => (intro w hSw; (try dsimp only at hSw); (try go_split_ands); go_simp; first | done | with_reducible rfl)
    (try simp only [pt, Act.put])
    refine wpAnyH_take (i := 3) (v := ?v3) rfl (by kernel_rfl) (by kernel_rfl) (by kernel_rfl) (fun _ _ _ h => h) (Or.inl ⟨by rfl, ?hy3⟩) hHeld ?rest3
    case hy3 => (intro w hSw; (try dsimp only at hSw); (try go_split_ands); go_simp; first | done | with_reducible rfl)
    (try simp only [pt, Act.put])
    refine wpAnyH_take (i := 4) (v := ?v4) rfl (by kernel_rfl) (by kernel_rfl) (by kernel_rfl) (fun _ _ _ h => h) (Or.inl ⟨by rfl, ?hy4⟩) hHeld ?rest4
    case hy4 => (intro w hSw; (try dsimp only at hSw); (try go_split_ands); go_simp; first | done | with_reducible rfl)
    (try simp only [pt, Act.put])
    refine wpAnyH_take (i := 5) rfl (by kernel_rfl) (by kernel_rfl) (by kernel_rfl) (fun _ _ _ h => h) (yieldsIf_load_mid (by rfl) 63 _ rfl _ 14 rfl _ _ (fun _ h => h.2.2.1) Tryz.underlying63 rfl (by kernel_rfl)) hHeld ?_
    (try simp only [pt, Act.put])
    refine wpAnyH_take (i := 7) (v := ?v5) rfl (by kernel_rfl) (by kernel_rfl) (by kernel_rfl) (fun _ _ _ h => h) (Or.inl ⟨by rfl, ?hy5⟩) hHeld ?rest5
    case hy5 => (intro w hSw; (try dsimp only at hSw); (try go_split_ands); go_simp; first | done | with_reducible rfl)
    (try simp only [pt, Act.put])
    refine wpAnyH_take (i := 8) (v := ?v6) rfl (by kernel_rfl) (by kernel_rfl) (by kernel_rfl) (fun _ _ _ h => h) (Or.inl ⟨by rfl, ?hy6⟩) hHeld ?rest6
    case hy6 => (intro w hSw; (try dsimp only at hSw); (try go_split_ands); go_simp; first | done | with_reducible rfl)
    (try simp only [pt, Act.put])
    refine wpAnyH_take (i := 9) (v := ?v7) rfl (by kernel_rfl) (by kernel_rfl) (by kernel_rfl) (fun _ _ _ h => h) (Or.inl ⟨by rfl, ?hy7⟩) hHeld ?rest7
    case hy7 => (intro w hSw; (try dsimp only at hSw); (try go_split_ands); go_simp; first | done | with_reducible rfl)
    (try simp only [pt, Act.put])
    refine wpAnyH_ready (rs := [6]) (by kernel_rfl) (by simp) ?_
    refine AllReadyH.cons rfl (fun K hK => ?_) AllReadyH.nil
    go_simp
    refine (set_g _ l1 most room si ⟨m.kind, m.mode, m.owner, m.links - 1, m.opn, m.up, m.data, m.names⟩ _ _ W5 S5.out.oldX (S5.out.g 1 rfl) HO1.out.len ((S5.out.n 0 rfl).same rfl) HNN.out.1).mono ?_
    rintro e W6 ⟨ao2, cp2, rfl, hg2, hb⟩
    have S6 := Lib.hid ((S5.out.call hb).addG hg2)
    clear hb hHeld hg2
    go_wp2_with fail
    refine hK.out _ _ ⟨(S6.out.at 0 rfl), (cells22 (S6.out.at 1 rfl)).2.2.2.2.1, (place_node (S6.out.at 1 rfl)), trivial⟩ (fun hHeld => ?_)
    clear hK K
    (try simp only [pt, Act.put])
    refine wpAnyH_ready (rs := [10]) (by kernel_rfl) (by simp) ?_
    refine AllReadyH.cons rfl (fun K hK => ?_) AllReadyH.nil
    go_simp
    refine (settle_g _ (setL l1 si ⟨m.kind, m.mode, m.owner, m.links - 1, m.opn, m.up, m.data, m.names⟩) most room si _ _ W6 S6.out.oldX (S6.out.g 2 rfl) (Ord.set (n := ⟨m.kind, m.mode, m.owner, m.links - 1, m.opn, m.up, m.data, m.names⟩) HO1.out HNN.out.1 HNN.out.2 si)).mono ?_
    rintro e W7 ⟨ao3, cp3, rfl, hg3, hb⟩
    have S7 := Lib.hid ((S6.out.call hb).addG hg3)
    clear hb hHeld hg3
    go_wp2_with fail
    refine hK.out _ _ ⟨(S7.out.at 0 rfl), (cells22 (S7.out.at 1 rfl)).2.2.2.2.1, (place_node (S7.out.at 1 rfl)), trivial⟩ (fun hHeld => ?_)
    clear hK K
    (try simp only [pt, Act.put])
    refine wpAnyH_ready (rs := [11]) (by kernel_rfl) (by simp) ?_
    refine AllReadyH.cons rfl (fun K hK => ?_) AllReadyH.nil
    rw [if_pos (by rfl)]
    refine wp_store_row 24 _ _ rfl _ rfl rfl (S7.out.at 2 rfl) rfl (by kernel_rfl) rfl ?_
    intro W8 hb hg hs hn
    have S8 := Lib.hid (S7.out.set 2 rfl hb hg hs hn)
    clear hb hg hs hn hHeld
    refine hK.out _ _ ⟨(S8.out.at 0 rfl), (cells22 (S8.out.at 1 rfl)).2.2.2.2.1, (place_node (S8.out.at 1 rfl)), trivial⟩ (fun hHeld => ?_)
    clear hK K
    (try simp only [pt, Act.put])
    refine wpAnyH_done (by kernel_rfl) ?_ _
    go_wp2_with fail
    refine bodyPost_ret (HRET.out _ _ _ (S8.out.at 2 rfl) rfl _ rfl) rfl ?_
    rw [HL.out, ← HL1.out]
    exact ⟨_, _, rfl, S8.out.gX 3 rfl, S8.out.bel⟩
  · have hI2 : (m.kind == 2) = true := by rw [hk]; rfl
    have hI1 : (m.kind == 1) = false := by rw [hk]; rfl
    have hI3 : (m.kind == 3) = false := by rw [hk]; rfl
    have HL : Hid (lessN m = ⟨m.kind, m.mode, m.owner, m.links - 1, m.opn, 0, m.data, m.names⟩) := Lib.hid (by unfold lessN; rw [if_pos hk])
    clear hk
    obtain ⟨-, -, -, -, -, -, -, -, -, -, -, -, -, -, p14, -, -, -, -, p19, -, -⟩ := cells22 (S3.out.at 1 rfl)
    have fp := fun j => Lib.frozen_of_heap (S3.out.at 1 rfl) j
    go_upto_region 7 with (fail)
    refine code_set22_19 (S3.out.at 1 rfl) ?_
    intro W4 hb hg hs hn
    clear p14 p19 fp
    have S4 := Lib.hid (S3.out.set 1 rfl hb hg hs hn)
    clear hb hg hs hn
    obtain ⟨-, -, -, -, -, -, -, -, -, -, -, -, -, -, -, -, -, p17, -, -, -, -⟩ := cells22 (S4.out.at 1 rfl)
    have fp := fun j => Lib.frozen_of_heap (S4.out.at 1 rfl) j
    go_upto_region 8 with (fail)
    refine code_set22_17 (S4.out.at 1 rfl) ?_
    intro W5 hb hg hs hn
    clear p17 fp
    have S5 := Lib.hid (S4.out.set 1 rfl hb hg hs hn)
    clear hb hg hs hn
    have h_d := (S5.out.at 0 rfl)
    refine wp_region_held_drew (S := fun W => W.heap[w.heap.size]? = some (.cells #[.slice ao1 l1.length cp1, .int .i64 most, .int .i64 room] 24 (0, 0)) ∧ W.cell? ⟨w.heap.size + 1, 4, none⟩ = some (.int .i64 si) ∧ W.rangeAt (w.heap.size + 1) 14 [.int .i64 m.kind, .int .i64 m.mode, .int .i64 m.owner, .int .i64 (m.links - 1), .int .i64 m.opn, .int .i64 0, .string (bs m.data), .slice aon m.names.length capn] ∧ True) (by kernel_rfl) ⟨(S5.out.at 0 rfl), (cells22 (S5.out.at 1 rfl)).2.2.2.2.1, (place_node (S5.out.at 1 rfl)), trivial⟩ (fun hHeld => ?_)
    clear h_d
    have S6 := Lib.hid (S5.out.call (Below.refl W5.heap.size W5).drew)
    generalize W5.drew = W6 at *
    refine wpAnyH_take (i := 0) rfl (by kernel_rfl) (by kernel_rfl) (by kernel_rfl) (fun _ _ _ h => h) (yieldsIf_load_row (by rfl) 24 _ rfl _ rfl 24 _ (0, 0) _ (fun _ h => h.1) Tryz.underlying24 rfl (by kernel_rfl)) hHeld ?_
    (try simp only [pt, Act.put])
    refine wpAnyH_take (i := 1) (v := ?v8) rfl (by kernel_rfl) (by kernel_rfl) (by kernel_rfl) (fun _ _ _ h => h) (Or.inl ⟨by rfl, ?hy8⟩) hHeld ?rest8
    case hy8 => (intro w hSw; (try dsimp only at hSw); (try go_split_ands); go_simp; first | done | with_reducible rfl)
    (try simp only [pt, Act.put])
    refine wpAnyH_take (i := 2) (v := ?v9) rfl (by kernel_rfl) (by kernel_rfl) (by kernel_rfl) (fun _ _ _ h => h) (Or.inl ⟨by rfl, ?hy9⟩) hHeld ?rest9
    case hy9 => (intro w hSw; (try dsimp only at hSw); (try go_split_ands); go_simp; first | done | with_reducible rfl)
    (try simp only [pt, Act.put])
    refine wpAnyH_take (i := 3) (v := ?v10) rfl (by kernel_rfl) (by kernel_rfl) (by kernel_rfl) (fun _ _ _ h => h) (Or.inl ⟨by rfl, ?hy10⟩) hHeld ?rest10
    case hy10 => (intro w hSw; (try dsimp only at hSw); (try go_split_ands); go_simp; first | done | with_reducible rfl)
    (try simp only [pt, Act.put])
    refine wpAnyH_take (i := 4) (v := ?v11) rfl (by kernel_rfl) (by kernel_rfl) (by kernel_rfl) (fun _ _ _ h => h) (Or.inl ⟨by rfl, ?hy11⟩) hHeld ?rest11
    case hy11 => (intro w hSw; (try dsimp only at hSw); (try go_split_ands); go_simp; first | done | with_reducible rfl)
    (try simp only [pt, Act.put])
    refine wpAnyH_take (i := 5) rfl (by kernel_rfl) (by kernel_rfl) (by kernel_rfl) (fun _ _ _ h => h) (yieldsIf_load_mid (by rfl) 63 _ rfl _ 14 rfl _ _ (fun _ h => h.2.2.1) Tryz.underlying63 rfl (by kernel_rfl)) hHeld ?_
    (try simp only [pt, Act.put])
    refine wpAnyH_take (i := 7) (v := ?v12) rfl (by kernel_rfl) (by kernel_rfl) (by kernel_rfl) (fun _ _ _ h => h) (Or.inl ⟨by rfl, ?hy12⟩) hHeld ?rest12
    case hy12 => (intro w hSw; (try dsimp only at hSw); (try go_split_ands); go_simp; first | done | with_reducible rfl)
    (try simp only [pt, Act.put])
    refine wpAnyH_take (i := 8) (v := ?v13) rfl (by kernel_rfl) (by kernel_rfl) (by kernel_rfl) (fun _ _ _ h => h) (Or.inl ⟨by rfl, ?hy13⟩) hHeld ?rest13
    case hy13 => (intro w hSw; (try dsimp only at hSw); (try go_split_ands); go_simp; first | done | with_reducible rfl)
    (try simp only [pt, Act.put])
    refine wpAnyH_take (i := 9) (v := ?v14) rfl (by kernel_rfl) (by kernel_rfl) (by kernel_rfl) (fun _ _ _ h => h) (Or.inl ⟨by rfl, ?hy14⟩) hHeld ?rest14
    case hy14 => (intro w hSw; (try dsimp only at hSw); (try go_split_ands); go_simp; first | done | with_reducible rfl)
    (try simp only [pt, Act.put])
    refine wpAnyH_ready (rs := [6]) (by kernel_rfl) (by simp) ?_
    refine AllReadyH.cons rfl (fun K hK => ?_) AllReadyH.nil
    go_simp
    refine (set_g _ l1 most room si ⟨m.kind, m.mode, m.owner, m.links - 1, m.opn, 0, m.data, m.names⟩ _ _ W6 S6.out.oldX (S6.out.g 1 rfl) HO1.out.len ((S6.out.n 0 rfl).same rfl) HNN.out.1).mono ?_
    rintro e W7 ⟨ao2, cp2, rfl, hg2, hb⟩
    have S7 := Lib.hid ((S6.out.call hb).addG hg2)
    clear hb hHeld hg2
    go_wp2_with fail
    refine hK.out _ _ ⟨(S7.out.at 0 rfl), (cells22 (S7.out.at 1 rfl)).2.2.2.2.1, (place_node (S7.out.at 1 rfl)), trivial⟩ (fun hHeld => ?_)
    clear hK K
    (try simp only [pt, Act.put])
    refine wpAnyH_ready (rs := [10]) (by kernel_rfl) (by simp) ?_
    refine AllReadyH.cons rfl (fun K hK => ?_) AllReadyH.nil
    go_simp
    refine (settle_g _ (setL l1 si ⟨m.kind, m.mode, m.owner, m.links - 1, m.opn, 0, m.data, m.names⟩) most room si _ _ W7 S7.out.oldX (S7.out.g 2 rfl) (Ord.set (n := ⟨m.kind, m.mode, m.owner, m.links - 1, m.opn, 0, m.data, m.names⟩) HO1.out HNN.out.1 HNN.out.2 si)).mono ?_
    rintro e W8 ⟨ao3, cp3, rfl, hg3, hb⟩
    have S8 := Lib.hid ((S7.out.call hb).addG hg3)
    clear hb hHeld hg3
    go_wp2_with fail
    refine hK.out _ _ ⟨(S8.out.at 0 rfl), (cells22 (S8.out.at 1 rfl)).2.2.2.2.1, (place_node (S8.out.at 1 rfl)), trivial⟩ (fun hHeld => ?_)
    clear hK K
    (try simp only [pt, Act.put])
    refine wpAnyH_ready (rs := [11]) (by kernel_rfl) (by simp) ?_
    refine AllReadyH.cons rfl (fun K hK => ?_) AllReadyH.nil
    rw [if_pos (by rfl)]
    refine wp_store_row 24 _ _ rfl _ rfl rfl (S8.out.at 2 rfl) rfl (by kernel_rfl) rfl ?_
    intro W9 hb hg hs hn
    have S9 := Lib.hid (S8.out.set 2 rfl hb hg hs hn)
    clear hb hg hs hn hHeld
    refine hK.out _ _ ⟨(S9.out.at 0 rfl), (cells22 (S9.out.at 1 rfl)).2.2.2.2.1, (place_node (S9.out.at 1 rfl)), trivial⟩ (fun hHeld => ?_)
    clear hK K
    (try simp only [pt, Act.put])
    refine wpAnyH_done (by kernel_rfl) ?_ _
    go_wp2_with fail
    refine bodyPost_ret (HRET.out _ _ _ (S9.out.at 2 rfl) rfl _ rfl) rfl ?_
    rw [HL.out, ← HL1.out]
    exact ⟨_, _, rfl, S9.out.gX 3 rfl, S9.out.bel⟩
  · have hI2 : (m.kind == 2) = false := by rw [hk]; rfl
    have hI1 : (m.kind == 1) = false := by rw [hk]; rfl
    have hI3 : (m.kind == 3) = true := by rw [hk]; rfl
    have HL : Hid (lessN m = ⟨m.kind, m.mode, m.owner, m.links - 1, m.opn, m.up, m.data, m.names⟩) := Lib.hid (by unfold lessN; rw [if_neg (by rw [hk]; decide)])
    clear hk
    obtain ⟨-, -, -, -, -, -, -, -, -, -, -, -, -, -, p14, -, -, p17, -, -, -, -⟩ := cells22 (S3.out.at 1 rfl)
    have fp := fun j => Lib.frozen_of_heap (S3.out.at 1 rfl) j
    go_upto_region 8 with (fail)
    refine code_set22_17 (S3.out.at 1 rfl) ?_
    intro W4 hb hg hs hn
    clear p14 p17 fp
    have S4 := Lib.hid (S3.out.set 1 rfl hb hg hs hn)
    clear hb hg hs hn
    have h_d := (S4.out.at 0 rfl)
    refine wp_region_held_drew (S := fun W => W.heap[w.heap.size]? = some (.cells #[.slice ao1 l1.length cp1, .int .i64 most, .int .i64 room] 24 (0, 0)) ∧ W.cell? ⟨w.heap.size + 1, 4, none⟩ = some (.int .i64 si) ∧ W.rangeAt (w.heap.size + 1) 14 [.int .i64 m.kind, .int .i64 m.mode, .int .i64 m.owner, .int .i64 (m.links - 1), .int .i64 m.opn, .int .i64 m.up, .string (bs m.data), .slice aon m.names.length capn] ∧ True) (by kernel_rfl) ⟨(S4.out.at 0 rfl), (cells22 (S4.out.at 1 rfl)).2.2.2.2.1, (place_node (S4.out.at 1 rfl)), trivial⟩ (fun hHeld => ?_)
    clear h_d
    have S5 := Lib.hid (S4.out.call (Below.refl W4.heap.size W4).drew)
    generalize W4.drew = W5 at *
    refine wpAnyH_take (i := 0) rfl (by kernel_rfl) (by kernel_rfl) (by kernel_rfl) (fun _ _ _ h => h) (yieldsIf_load_row (by rfl) 24 _ rfl _ rfl 24 _ (0, 0) _ (fun _ h => h.1) Tryz.underlying24 rfl (by kernel_rfl)) hHeld ?_
    (try simp only [pt, Act.put])
    refine wpAnyH_take (i := 1) (v := ?v15) rfl (by kernel_rfl) (by kernel_rfl) (by kernel_rfl) (fun _ _ _ h => h) (Or.inl ⟨by rfl, ?hy15⟩) hHeld ?rest15
    case hy15 => (intro w hSw; (try dsimp only at hSw); (try go_split_ands); go_simp; first | done | with_reducible rfl)
    (try simp only [pt, Act.put])
    refine wpAnyH_take (i := 2) (v := ?v16) rfl (by kernel_rfl) (by kernel_rfl) (by kernel_rfl) (fun _ _ _ h => h) (Or.inl ⟨by rfl, ?hy16⟩) hHeld ?rest16
    case hy16 => (intro w hSw; (try dsimp only at hSw); (try go_split_ands); go_simp; first | done | with_reducible rfl)
    (try simp only [pt, Act.put])
    refine wpAnyH_take (i := 3) (v := ?v17) rfl (by kernel_rfl) (by kernel_rfl) (by kernel_rfl) (fun _ _ _ h => h) (Or.inl ⟨by rfl, ?hy17⟩) hHeld ?rest17
    case hy17 => (intro w hSw; (try dsimp only at hSw); (try go_split_ands); go_simp; first | done | with_reducible rfl)
    (try simp only [pt, Act.put])
    refine wpAnyH_take (i := 4) (v := ?v18) rfl (by kernel_rfl) (by kernel_rfl) (by kernel_rfl) (fun _ _ _ h => h) (Or.inl ⟨by rfl, ?hy18⟩) hHeld ?rest18
    case hy18 => (intro w hSw; (try dsimp only at hSw); (try go_split_ands); go_simp; first | done | with_reducible rfl)
    (try simp only [pt, Act.put])
    refine wpAnyH_take (i := 5) rfl (by kernel_rfl) (by kernel_rfl) (by kernel_rfl) (fun _ _ _ h => h) (yieldsIf_load_mid (by rfl) 63 _ rfl _ 14 rfl _ _ (fun _ h => h.2.2.1) Tryz.underlying63 rfl (by kernel_rfl)) hHeld ?_
    (try simp only [pt, Act.put])
    refine wpAnyH_take (i := 7) (v := ?v19) rfl (by kernel_rfl) (by kernel_rfl) (by kernel_rfl) (fun _ _ _ h => h) (Or.inl ⟨by rfl, ?hy19⟩) hHeld ?rest19
    case hy19 => (intro w hSw; (try dsimp only at hSw); (try go_split_ands); go_simp; first | done | with_reducible rfl)
    (try simp only [pt, Act.put])
    refine wpAnyH_take (i := 8) (v := ?v20) rfl (by kernel_rfl) (by kernel_rfl) (by kernel_rfl) (fun _ _ _ h => h) (Or.inl ⟨by rfl, ?hy20⟩) hHeld ?rest20
    case hy20 => (intro w hSw; (try dsimp only at hSw); (try go_split_ands); go_simp; first | done | with_reducible rfl)
    (try simp only [pt, Act.put])
    refine wpAnyH_take (i := 9) (v := ?v21) rfl (by kernel_rfl) (by kernel_rfl) (by kernel_rfl) (fun _ _ _ h => h) (Or.inl ⟨by rfl, ?hy21⟩) hHeld ?rest21
    case hy21 => (intro w hSw; (try dsimp only at hSw); (try go_split_ands); go_simp; first | done | with_reducible rfl)
    (try simp only [pt, Act.put])
    refine wpAnyH_ready (rs := [6]) (by kernel_rfl) (by simp) ?_
    refine AllReadyH.cons rfl (fun K hK => ?_) AllReadyH.nil
    go_simp
    refine (set_g _ l1 most room si ⟨m.kind, m.mode, m.owner, m.links - 1, m.opn, m.up, m.data, m.names⟩ _ _ W5 S5.out.oldX (S5.out.g 1 rfl) HO1.out.len ((S5.out.n 0 rfl).same rfl) HNN.out.1).mono ?_
    rintro e W6 ⟨ao2, cp2, rfl, hg2, hb⟩
    have S6 := Lib.hid ((S5.out.call hb).addG hg2)
    clear hb hHeld hg2
    go_wp2_with fail
    refine hK.out _ _ ⟨(S6.out.at 0 rfl), (cells22 (S6.out.at 1 rfl)).2.2.2.2.1, (place_node (S6.out.at 1 rfl)), trivial⟩ (fun hHeld => ?_)
    clear hK K
    (try simp only [pt, Act.put])
    refine wpAnyH_ready (rs := [10]) (by kernel_rfl) (by simp) ?_
    refine AllReadyH.cons rfl (fun K hK => ?_) AllReadyH.nil
    go_simp
    refine (settle_g _ (setL l1 si ⟨m.kind, m.mode, m.owner, m.links - 1, m.opn, m.up, m.data, m.names⟩) most room si _ _ W6 S6.out.oldX (S6.out.g 2 rfl) (Ord.set (n := ⟨m.kind, m.mode, m.owner, m.links - 1, m.opn, m.up, m.data, m.names⟩) HO1.out HNN.out.1 HNN.out.2 si)).mono ?_
    rintro e W7 ⟨ao3, cp3, rfl, hg3, hb⟩
    have S7 := Lib.hid ((S6.out.call hb).addG hg3)
    clear hb hHeld hg3
    go_wp2_with fail
    refine hK.out _ _ ⟨(S7.out.at 0 rfl), (cells22 (S7.out.at 1 rfl)).2.2.2.2.1, (place_node (S7.out.at 1 rfl)), trivial⟩ (fun hHeld => ?_)
    clear hK K
    (try simp only [pt, Act.put])
    refine wpAnyH_ready (rs := [11]) (by kernel_rfl) (by simp) ?_
    refine AllReadyH.cons rfl (fun K hK => ?_) AllReadyH.nil
    rw [if_pos (by rfl)]
    refine wp_store_row 24 _ _ rfl _ rfl rfl (S7.out.at 2 rfl) rfl (by kernel_rfl) rfl ?_
    intro W8 hb hg hs hn
    have S8 := Lib.hid (S7.out.set 2 rfl hb hg hs hn)
    clear hb hg hs hn hHeld
    refine hK.out _ _ ⟨(S8.out.at 0 rfl), (cells22 (S8.out.at 1 rfl)).2.2.2.2.1, (place_node (S8.out.at 1 rfl)), trivial⟩ (fun hHeld => ?_)
    clear hK K
    (try simp only [pt, Act.put])
    refine wpAnyH_done (by kernel_rfl) ?_ _
    go_wp2_with fail
    refine bodyPost_ret (HRET.out _ _ _ (S8.out.at 2 rfl) rfl _ rfl) rfl ?_
    rw [HL.out, ← HL1.out]
    exact ⟨_, _, rfl, S8.out.gX 3 rfl, S8.out.bel⟩
end Go.Proofs.YtpmhmippoefcfaaGreatDoor
