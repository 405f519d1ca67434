import Derived.Test.YtilhiafmljmljaaR21
import Derived.Test.YtilhiafmljmljaaR22
namespace Go.Proofs.Ytilhiafmljmljaa
open Go.RowKit Go.Shelf
attribute [local go_sem ↓] Go.wp_at_zero Go.wp_at_succ
structure TreeOk (l : List NodeL) : Prop where
  rig : Rig l
  len : l.length ≤ 1000
  nam : ∀ n ∈ l, n.names.length ≤ 10000
  nm : ∀ n ∈ l, ∀ e ∈ n.names, e.1.length ≤ 12
  many : ∀ i, (listT l i).length ≤ 9999
theorem intsC_one (L : List Int) : ∀ u ∈ intsC L, u.oneCell' = true := by
  intro u hu
  obtain ⟨x, _, rfl⟩ := List.mem_map.1 hu
  rfl
theorem intsC_app (a b : List Int) : intsC (a ++ b) = intsC a ++ intsC b := List.map_append
def listK (l : List NodeL) (n : NodeL) (k : Nat) : List LineL := topL n :: (n.names.take k).flatMap fun e => (listT l e.2).map (underL e.1)
def insideK (l : List NodeL) (i : Int) (n : NodeL) (k : Nat) : List Int := i :: (n.names.take k).flatMap fun e => insideT l e.2
def depthK (l : List NodeL) (n : NodeL) (k : Nat) : Nat := maxN ((n.names.take k).map fun e => depthT l e.2)
theorem listK_succ {l : List NodeL} {n : NodeL} {k : Nat} (hk : k < n.names.length) : listK l n (k + 1) = listK l n k ++ (listT l n.names[k].2).map (underL n.names[k].1) := by
  unfold listK
  rw [List.take_succ_eq_append_getElem hk, List.flatMap_append]
  simp
theorem insideK_succ {l : List NodeL} {i : Int} {n : NodeL} {k : Nat} (hk : k < n.names.length) : insideK l i n (k + 1) = insideK l i n k ++ insideT l n.names[k].2 := by
  unfold insideK
  rw [List.take_succ_eq_append_getElem hk, List.flatMap_append]
  simp
theorem depthK_succ {l : List NodeL} {n : NodeL} {k : Nat} (hk : k < n.names.length) : depthK l n (k + 1) = max (depthK l n k) (depthT l n.names[k].2) := by
  unfold depthK maxN
  rw [List.take_succ_eq_append_getElem hk, List.map_append, List.foldl_append]
  rfl
theorem listK_len {l : List NodeL} {i : Int} (k : Nat) : (listK l (nodeL l i) k).length = totL l i k := by
  unfold listK totL
  rw [List.length_cons, flat_under]
  omega
theorem insideK_len {l : List NodeL} (h : Rig l) {i : Int} (k : Nat) : (insideK l i (nodeL l i) k).length = totL l i k := by
  unfold insideK totL
  rw [List.length_cons, flat_len _ (fun e => listT l e.2) _ fun e _ => (list_inside h e.2).symm]
  omega
theorem list_all {l : List NodeL} (h : Rig l) {i : Int} (hg : gotB l i = true) : listK l (nodeL l i) (nodeL l i).names.length = listT l i := by
  unfold listK
  rw [List.take_length, list_is h hg]
theorem inside_allK {l : List NodeL} (h : Rig l) {i : Int} (hg : gotB l i = true) : insideK l i (nodeL l i) (nodeL l i).names.length = insideT l i := by
  unfold insideK
  rw [List.take_length, inside_is h hg]
theorem depth_all {l : List NodeL} (h : Rig l) {i : Int} (hg : gotB l i = true) : 1 + depthK l (nodeL l i) (nodeL l i).names.length = depthT l i := by
  unfold depthK
  rw [List.take_length, depth_is h hg]
set_option maxRecDepth 100000 in
set_option maxHeartbeats 4000000 in
theorem rlist_c {ao : Option Addr} {cap : Nat} {ms : List NodeM} (most room : Int) (h : TreeOk (pl ms)) : ∀ (f : Nat) (i : Int) (w : World), Enough (pl ms) f i → RdM w.heap.size (.slice ao ms.length cap) ms w →
    Calls Try.prog 25 #[.agg #[.slice ao ms.length cap, .int .i64 most, .int .i64 room], .int .i64 i] w fun e w' => ∃ v, e = .returned v ∧ w'.ownsRow w.heap.size 67 4 v (listT (pl ms) i).length (linesC (listT (pl ms) i)) ∧ Below w.heap.size w w' := by
  have hml : ms.length ≤ 1000 := by have := h.len; rwa [pl_len] at this
  intro f
  induction f with
  | zero => intro i w hf; exact absurd hf.1 (by omega)
  | succ f ih =>
    intro i w hf hv
    obtain ⟨iE, hE, hEz, hEs, hEb⟩ := info_parts infoLineR
    have HV := Lib.hid hv
    have HF := Lib.hid hf
    clear hf hv
    go_enter Try.func25, Try.ntmps25
    go_upto_region 1 with (fail)
    refine code_fresh1 ?_
    intro W1 hb1 hA1 hs1
    obtain ⟨d0, d1, d2⟩ := cells3 hA1
    go_wp2_with fail
    refine (rget_any _ ms most room i W1 (rdm_keep HV.out hb1) (by omega)).mono ?_
    rintro e W2 ⟨vn, rfl, hrn, hb2⟩
    obtain ⟨aon, capn, ev, _, _⟩ := Rd.form hrn
    dsimp only at ev
    subst ev
    have hD2 := (hb2.block _ (by omega)).trans hA1
    have hB2 : Below w.heap.size w W2 := ret_tr hb1 hb2
    have hlt2 : w.heap.size < W2.heap.size := lt_some hD2
    have HN := Lib.hid (show nodeL (pl ms) i = getL (pl ms) i from rfl)
    have hnn : (getL (pl ms) i).names.length ≤ 10000 := getL_small h.nam i
    have hnl2 : ∀ e ∈ (getL (pl ms) i).names, e.1.length ≤ 12 := getL_names h.nm i
    generalize getL (pl ms) i = nn at *
    clear d0 d1 d2 hA1 hb1 hb2
    go_upto_region 2 with (first
      | (refine wpList_fresh1 ?_; intro W3 hb3 hA3 hs3; have hD3 := (hb3.block _ hlt2).trans hD2; have hrn3 := rd_keep hrn hb3; have hB3 := ret_tr hB2 hb3; have hK3 := hb3; have h_n := hA3; clear hb3 hA3)
      | (refine wpList_store_row rfl 49 _ _ rfl _ rfl rfl h_n rfl (by kernel_rfl) rfl ?_; intro W4 hb4 hg4 hs4 hn4))
    (try simp only [List.getElem_toArray]); (try simp only [List.getElem_cons_succ]); (try simp only [List.getElem_cons_zero]); (try simp only [Act.put]); (try simp only [List.setIfInBounds_toArray]); (try simp only [List.set_cons_succ]); (try simp only [List.set_cons_zero])
    have hD4 := (hg4 _ (by omega)).trans hD3
    have hrn4 : Rd W4.heap.size 2 (.slice aon nn.names.length capn) nn.names.length (ents nn.names) W4 := ((Rd.mono hrn (Nat.le_refl _)).below (Below.refl _ _) |> fun _ => (rd_keep hrn (show Below W2.heap.size W2 W4 from ⟨hb4.os.trans hK3.os, hb4.tape.trans hK3.tape, hb4.output.trans hK3.output, by have := hK3.size; omega, fun g hg => (hg4 g (by omega)).trans (hK3.block g hg)⟩)))
    have hB4 : Below w.heap.size w W4 := hB3.trans (hb4.mono (by omega))
    have hlt4 : W2.heap.size < W4.heap.size := lt_some hn4
    clear hrn hrn3 hD2 hD3 hB2 hB3 hs3 h_n hb4 hg4 hs4 hK3
    cases hg : gotB (pl ms) i with
    | false =>
      have HE := Lib.hid (list_no hg)
      clear hg
      go_wp2_with fail
      go_ret
      exact ⟨_, rfl, by rw [HE.out]; exact World.ownsRow_nil _ _ _ _, hB4⟩
    | true =>
      have HA := Lib.hid (list_all h.rig hg)
      rw [HN.out] at HA
      have HTL := Lib.hid (fun (k : Nat) (hk : k < (nodeL (pl ms) i).names.length) => tot_fit h.rig hg hk)
      rw [HN.out] at HTL
      have hch : ∀ e ∈ nn.names, Enough (pl ms) f e.2 := fun e he => enough_child h.rig HF.out (by rw [HN.out]; exact he)
      clear hg
      obtain ⟨n0, n1, n2, n3, n4, n5, n6, n7⟩ := cells8 hn4
      go_upto_region 5 with (fail)
      refine code_fresh1 ?_
      intro W5 hb5 hA5 hs5
      have HO := Lib.hid (show W5.ownsRow W4.heap.size 67 4 (.slice (some ⟨W4.heap.size, 0, none⟩) 1 1) (listK (pl ms) nn 0).length (linesC (listK (pl ms) nn 0)) from own_lit hA5 rfl)
      have HB := Lib.hid hb5
      clear hA5 hs5 hb5 n0 n1 n2 n3 n4 n5 n6
      go_wp2_with fail
      go_loopw [7, 8] (fun vo i0 wr => ∃ k : Nat, i0 = .int .i64 k ∧ k ≤ nn.names.length ∧ Hid (wr.ownsRow W4.heap.size 67 4 vo (listK (pl ms) nn k).length (linesC (listK (pl ms) nn k))) ∧ Hid (Below W4.heap.size W4 wr)) (fun _ i0 _ => nn.names.length - (RowKit.intOf i0).toNat)
      case atStart => exact ⟨0, rfl, Nat.zero_le _, HO, HB⟩
      case round =>
        clear HO HB
        obtain ⟨k, rfl, hk, HO, HB⟩ := hrel
        obtain ⟨aov, capv, ev⟩ := own_form HO.out
        subst ev
        have n7r := (HB.out.cell (p := ⟨W2.heap.size, 7, none⟩) hlt4).trans n7
        by_cases hlt : k < nn.names.length
        · have iL : decide (k < nn.names.length) = true := decide_eq_true hlt
          have iL2 : decide ((k : Int) < (nn.names.length : Int)) = true := decide_eq_true (by omega)
          have k0 : (0 : Int) ≤ (k : Int) := by omega
          have k1 : (k : Int) < (nn.names.length : Int) := by omega
          have w1 : IntKind.i64.wrap ((k : Int) + 1) = (k : Int) + 1 := Go.IntWalk.i64_in _ (by omega)
          obtain ⟨bN, oN, cN, eN, _, _, hbN, _, hcell⟩ := Rd.at hrn4 (show 0 < nn.names.length by omega)
          injection eN with eN1 _ eN2
          subst eN1
          subst eN2
          obtain ⟨en, hen⟩ : ∃ en, en = nn.names[k] := ⟨_, rfl⟩
          have ce0 := hcell _ _ (ents_at0 nn.names k hlt)
          have ce1 := hcell _ _ (ents_at1 nn.names k hlt)
          rw [← hen] at ce0 ce1
          rw [← Nat.add_assoc] at ce1
          have HE := Lib.hid hen
          clear hen hcell
          have CR := Lib.hid (fun (V : World) (hb : Below W4.heap.size W4 V) => (⟨(hb.cell (p := ⟨W2.heap.size, 7, none⟩) hlt4).trans n7, (hb.cell (p := ⟨bN, oN + k * 2, none⟩) hbN).trans ce0, (hb.cell (p := ⟨bN, oN + k * 2 + 1, none⟩) hbN).trans ce1, (hb.block _ (by omega)).trans hD4, trivial⟩ : V.cell? ⟨W2.heap.size, 7, none⟩ = some (.slice (some ⟨bN, oN, none⟩) nn.names.length capn) ∧ V.cell? ⟨bN, oN + k * 2, none⟩ = some (.string (bs en.1)) ∧ V.cell? ⟨bN, oN + k * 2 + 1, none⟩ = some (.int .i64 en.2) ∧ V.heap[w.heap.size]? = some (.cells #[.slice ao ms.length cap, .int .i64 most, .int .i64 room] 35 (0, 0)) ∧ True))
          have HR := Lib.hid (fun (V : World) (hb : Below W4.heap.size W4 V) => ((HV.out.below (hB4.trans (hb.mono hB4.size))).mono (hB4.trans (hb.mono hB4.size)).size : RdM V.heap.size (.slice ao ms.length cap) ms V))
          clear ce0 ce1
          go_upto_region 8 with (fail)
          clear n7r iL iL2
          refine wp_region_held_drew (S := fun V => V.cell? ⟨W2.heap.size, 7, none⟩ = some (.slice (some ⟨bN, oN, none⟩) nn.names.length capn) ∧ V.cell? ⟨bN, oN + k * 2, none⟩ = some (.string (bs en.1)) ∧ V.cell? ⟨bN, oN + k * 2 + 1, none⟩ = some (.int .i64 en.2) ∧ V.heap[w.heap.size]? = some (.cells #[.slice ao ms.length cap, .int .i64 most, .int .i64 room] 35 (0, 0)) ∧ True) (by kernel_rfl) (CR.out _ HB.out.drew) (fun hHeld => ?_)
          have HO2 := Lib.hid (World.ownsRow.drew HO.out)
          have HB2 := Lib.hid HB.out.drew
          generalize wr.drew = V2 at *
          clear HO HB
          refine wpAnyH_take (i := 0) (v := ?v1) rfl (by kernel_rfl) (by kernel_rfl) (by kernel_rfl) (fun _ _ _ h => h) (Or.inl ⟨by rfl, ?hy1⟩) hHeld ?rest1
          case hy1 => (intro w hSw; (try dsimp only at hSw); (try go_split_ands); go_simp; first | done | with_reducible rfl)
          (try simp only [List.getElem_toArray]); (try simp only [List.getElem_cons_succ]); (try simp only [List.getElem_cons_zero]); (try simp only [Act.put]); (try simp only [List.setIfInBounds_toArray]); (try simp only [List.set_cons_succ]); (try simp only [List.set_cons_zero])
          refine wpAnyH_take (i := 1) (v := ?v2) rfl (by kernel_rfl) (by kernel_rfl) (by kernel_rfl) (fun _ _ _ h => h) (Or.inl ⟨by rfl, ?hy2⟩) hHeld ?rest2
          case hy2 => (intro w hSw; (try dsimp only at hSw); (try go_split_ands); go_simp; first | done | with_reducible rfl)
          (try simp only [List.getElem_toArray]); (try simp only [List.getElem_cons_succ]); (try simp only [List.getElem_cons_zero]); (try simp only [Act.put]); (try simp only [List.setIfInBounds_toArray]); (try simp only [List.set_cons_succ]); (try simp only [List.set_cons_zero])
          refine wpAnyH_take (i := 2) (v := ?v3) rfl (by kernel_rfl) (by kernel_rfl) (by kernel_rfl) (fun _ _ _ h => h) (Or.inl ⟨by rfl, ?hy3⟩) hHeld ?rest3
          case hy3 => (intro w hSw; (try dsimp only at hSw); (try go_split_ands); go_simp; first | done | with_reducible rfl)
          (try simp only [List.getElem_toArray]); (try simp only [List.getElem_cons_succ]); (try simp only [List.getElem_cons_zero]); (try simp only [Act.put]); (try simp only [List.setIfInBounds_toArray]); (try simp only [List.set_cons_succ]); (try simp only [List.set_cons_zero])
          refine wpAnyH_take (i := 3) (v := ?v4) rfl (by kernel_rfl) (by kernel_rfl) (by kernel_rfl) (fun _ _ _ h => h) (Or.inl ⟨by rfl, ?hy4⟩) hHeld ?rest4
          case hy4 => (intro w hSw; (try dsimp only at hSw); (try go_split_ands); go_simp; first | done | with_reducible rfl)
          (try simp only [List.getElem_toArray]); (try simp only [List.getElem_cons_succ]); (try simp only [List.getElem_cons_zero]); (try simp only [Act.put]); (try simp only [List.setIfInBounds_toArray]); (try simp only [List.set_cons_succ]); (try simp only [List.set_cons_zero])
          refine wpAnyH_take (i := 4) (v := ?v5) rfl (by kernel_rfl) (by kernel_rfl) (by kernel_rfl) (fun _ _ _ h => h) (Or.inl ⟨by rfl, ?hy5⟩) hHeld ?rest5
          case hy5 => (intro w hSw; (try dsimp only at hSw); (try go_split_ands); go_simp; first | done | with_reducible rfl)
          (try simp only [List.getElem_toArray]); (try simp only [List.getElem_cons_succ]); (try simp only [List.getElem_cons_zero]); (try simp only [Act.put]); (try simp only [List.setIfInBounds_toArray]); (try simp only [List.set_cons_succ]); (try simp only [List.set_cons_zero])
          refine wpAnyH_take (i := 5) (v := ?v6) rfl (by kernel_rfl) (by kernel_rfl) (by kernel_rfl) (fun _ _ _ h => h) (Or.inl ⟨by rfl, ?hy6⟩) hHeld ?rest6
          case hy6 => (intro w hSw; (try dsimp only at hSw); (try go_split_ands); go_simp; first | done | with_reducible rfl)
          (try simp only [List.getElem_toArray]); (try simp only [List.getElem_cons_succ]); (try simp only [List.getElem_cons_zero]); (try simp only [Act.put]); (try simp only [List.setIfInBounds_toArray]); (try simp only [List.set_cons_succ]); (try simp only [List.set_cons_zero])
          refine wpAnyH_take (i := 6) (v := ?v7) rfl (by kernel_rfl) (by kernel_rfl) (by kernel_rfl) (fun _ _ _ h => h) (Or.inl ⟨by rfl, ?hy7⟩) hHeld ?rest7
          case hy7 => (intro w hSw; (try dsimp only at hSw); (try go_split_ands); go_simp; first | done | with_reducible rfl)
          (try simp only [List.getElem_toArray]); (try simp only [List.getElem_cons_succ]); (try simp only [List.getElem_cons_zero]); (try simp only [Act.put]); (try simp only [List.setIfInBounds_toArray]); (try simp only [List.set_cons_succ]); (try simp only [List.set_cons_zero])
          refine wpAnyH_take (i := 8) (v := ?v8) rfl (by kernel_rfl) (by kernel_rfl) (by kernel_rfl) (fun _ _ _ h => h) (Or.inl ⟨by rfl, ?hy8⟩) hHeld ?rest8
          case hy8 => (intro w hSw; (try dsimp only at hSw); (try go_split_ands); go_simp; first | done | with_reducible rfl)
          (try simp only [List.getElem_toArray]); (try simp only [List.getElem_cons_succ]); (try simp only [List.getElem_cons_zero]); (try simp only [Act.put]); (try simp only [List.setIfInBounds_toArray]); (try simp only [List.set_cons_succ]); (try simp only [List.set_cons_zero])
          refine wpAnyH_take (i := 9) (v := ?v9) rfl (by kernel_rfl) (by kernel_rfl) (by kernel_rfl) (fun _ _ _ h => h) (Or.inl ⟨by rfl, ?hy9⟩) hHeld ?rest9
          case hy9 => (intro w hSw; (try dsimp only at hSw); (try go_split_ands); go_simp; first | done | with_reducible rfl)
          (try simp only [List.getElem_toArray]); (try simp only [List.getElem_cons_succ]); (try simp only [List.getElem_cons_zero]); (try simp only [Act.put]); (try simp only [List.setIfInBounds_toArray]); (try simp only [List.set_cons_succ]); (try simp only [List.set_cons_zero])
          refine wpAnyH_take (i := 10) (v := ?v10) rfl (by kernel_rfl) (by kernel_rfl) (by kernel_rfl) (fun _ _ _ h => h) (Or.inl ⟨by rfl, ?hy10⟩) hHeld ?rest10
          case hy10 => (intro w hSw; (try dsimp only at hSw); (try go_split_ands); go_simp; first | done | with_reducible rfl)
          (try simp only [List.getElem_toArray]); (try simp only [List.getElem_cons_succ]); (try simp only [List.getElem_cons_zero]); (try simp only [Act.put]); (try simp only [List.setIfInBounds_toArray]); (try simp only [List.set_cons_succ]); (try simp only [List.set_cons_zero])
          refine wpAnyH_take (i := 11) (v := ?v11) rfl (by kernel_rfl) (by kernel_rfl) (by kernel_rfl) (fun _ _ _ h => h) (Or.inl ⟨by rfl, ?hy11⟩) hHeld ?rest11
          case hy11 => (intro w hSw; (try dsimp only at hSw); (try go_split_ands); go_simp; first | done | with_reducible rfl)
          (try simp only [List.getElem_toArray]); (try simp only [List.getElem_cons_succ]); (try simp only [List.getElem_cons_zero]); (try simp only [Act.put]); (try simp only [List.setIfInBounds_toArray]); (try simp only [List.set_cons_succ]); (try simp only [List.set_cons_zero])
          refine wpAnyH_take (i := 12) (v := ?v12) rfl (by kernel_rfl) (by kernel_rfl) (by kernel_rfl) (fun _ _ _ h => h) (Or.inl ⟨by rfl, ?hy12⟩) hHeld ?rest12
          case hy12 => (intro w hSw; (try dsimp only at hSw); (try go_split_ands); go_simp; first | done | with_reducible rfl)
          (try simp only [List.getElem_toArray]); (try simp only [List.getElem_cons_succ]); (try simp only [List.getElem_cons_zero]); (try simp only [Act.put]); (try simp only [List.setIfInBounds_toArray]); (try simp only [List.set_cons_succ]); (try simp only [List.set_cons_zero])
          refine wpAnyH_take (i := 13) (v := ?v13) rfl (by kernel_rfl) (by kernel_rfl) (by kernel_rfl) (fun _ _ _ h => h) (Or.inl ⟨by rfl, ?hy13⟩) hHeld ?rest13
          case hy13 => (intro w hSw; (try dsimp only at hSw); (try go_split_ands); go_simp; first | done | with_reducible rfl)
          (try simp only [List.getElem_toArray]); (try simp only [List.getElem_cons_succ]); (try simp only [List.getElem_cons_zero]); (try simp only [Act.put]); (try simp only [List.setIfInBounds_toArray]); (try simp only [List.set_cons_succ]); (try simp only [List.set_cons_zero])
          refine wpAnyH_take (i := 7) rfl (by kernel_rfl) (by kernel_rfl) (by kernel_rfl) (fun _ _ _ h => h) (yieldsIf_load_row (by rfl) 35 _ rfl _ rfl 35 _ (0, 0) _ (fun _ h => h.2.2.2.1) Try.underlying35 rfl (by kernel_rfl)) hHeld ?_
          (try simp only [List.getElem_toArray]); (try simp only [List.getElem_cons_succ]); (try simp only [List.getElem_cons_zero]); (try simp only [Act.put]); (try simp only [List.setIfInBounds_toArray]); (try simp only [List.set_cons_succ]); (try simp only [List.set_cons_zero])
          refine wpAnyH_ready (rs := [14]) (by kernel_rfl) (by simp) ?_
          refine AllReadyH.cons rfl (fun K hK => ?_) AllReadyH.nil
          go_simp
          refine (ih en.2 V2 (hch _ (by rw [HE.out]; exact List.getElem_mem hlt)) (HR.out _ HB2.out)).mono ?_
          rintro e V3 ⟨v3, rfl, ho3, hb3⟩
          obtain ⟨ao3, cp3, rfl⟩ := own_form ho3
          have HB3 := Lib.hid (HB2.out.trans (hb3.mono HB2.out.size))
          have HO3 := Lib.hid (ownsRow_below HO2.out hb3 (Nat.le_refl _))
          have hrd3 := Lib.hid (Rd.own ho3 (Nat.le_refl _))
          go_wp2_with fail
          refine hK.out _ _ (CR.out _ HB3.out) (fun hHeld => ?_)
          clear hK K hb3 ho3 HO2
          (try simp only [List.getElem_toArray]); (try simp only [List.getElem_cons_succ]); (try simp only [List.getElem_cons_zero]); (try simp only [Act.put]); (try simp only [List.setIfInBounds_toArray]); (try simp only [List.set_cons_succ]); (try simp only [List.set_cons_zero])
          refine wpAnyH_ready (rs := [15]) (by kernel_rfl) (by simp) ?_
          refine AllReadyH.cons rfl (fun K hK => ?_) AllReadyH.nil
          go_simp
          refine (under_c en.1 (by have := hnl2 en (by rw [HE.out]; exact List.getElem_mem hlt); omega) (listT (pl ms) en.2) (by have := h.many en.2; omega) (listT_path h.nm h.len en.2) ao3 cp3 V3 hrd3.out).mono ?_
          rintro e V4 ⟨v4, rfl, ho4, hb4⟩
          obtain ⟨ao4, cp4, rfl⟩ := own_form ho4
          have HB4 := Lib.hid (HB3.out.trans (hb4.mono HB3.out.size))
          have HO4 := Lib.hid (ownsRow_below HO3.out hb4 (Nat.le_refl _))
          have hrd4 := Lib.hid (Rd.own ho4 (Nat.le_refl _))
          go_wp2_with fail
          refine hK.out _ _ (CR.out _ HB4.out) (fun hHeld => ?_)
          clear hK K hb4 ho4 HO3
          (try simp only [List.getElem_toArray]); (try simp only [List.getElem_cons_succ]); (try simp only [List.getElem_cons_zero]); (try simp only [Act.put]); (try simp only [List.setIfInBounds_toArray]); (try simp only [List.set_cons_succ]); (try simp only [List.set_cons_zero])
          have hfit : (listK (pl ms) nn k).length + (listT (pl ms) en.2).length ≤ 9999 := by
            have h1 := HTL.out k hlt
            rw [← HE.out, ← listK_len, HN.out] at h1
            have h2 := h.many i
            omega
          refine wpAnyH_ready (rs := [16]) (by kernel_rfl) (by simp) ?_
          refine AllReadyH.cons rfl (fun K hK => ?_) AllReadyH.nil
          rw [if_pos (by rfl)]
          refine wp_append_rd (.tmp 32) (.tmp 47) 30 rfl W4.heap.size 67 iE _ 4 48 Try.underlying30 hE hEz hEs hEb rfl (by decide) _ _ _ rfl HO4.out _ _ (listT (pl ms) en.2).length _ rfl hrd4.out (linesC_one _) (by unfold maxLen; omega) (by omega) HB4.out.size ?_
          intro v5 W6 ho5 hg5
          have HB5 := Lib.hid (HB4.out.grown hg5 HB4.out.size fun j ej => (HO4.out.lt j ej).1)
          obtain ⟨aov5, capv5, rfl⟩ := own_form ho5
          refine hK.out _ _ (CR.out _ HB5.out) (fun hHeld => ?_)
          clear hK K hg5 hrd4 HO4
          (try simp only [List.getElem_toArray]); (try simp only [List.getElem_cons_succ]); (try simp only [List.getElem_cons_zero]); (try simp only [Act.put]); (try simp only [List.setIfInBounds_toArray]); (try simp only [List.set_cons_succ]); (try simp only [List.set_cons_zero])
          refine wpAnyH_take (i := 17) (v := ?v14) rfl (by kernel_rfl) (by kernel_rfl) (by kernel_rfl) (fun _ _ _ h => h) (Or.inl ⟨by rfl, ?hy14⟩) hHeld ?rest14
          case hy14 => (intro w hSw; (try dsimp only at hSw); (try go_split_ands); go_simp; first | done | with_reducible rfl)
          (try simp only [List.getElem_toArray]); (try simp only [List.getElem_cons_succ]); (try simp only [List.getElem_cons_zero]); (try simp only [Act.put]); (try simp only [List.setIfInBounds_toArray]); (try simp only [List.set_cons_succ]); (try simp only [List.set_cons_zero])
          have hks := listK_succ (l := pl ms) hlt
          rw [← HE.out] at hks
          have HO6 := Lib.hid (show W6.ownsRow W4.heap.size 67 4 (.slice aov5 (listK (pl ms) nn (k + 1)).length capv5) (listK (pl ms) nn (k + 1)).length (linesC (listK (pl ms) nn (k + 1))) by
            rw [hks, List.length_append, linesC_app, List.length_map]
            exact ho5)
          skip
          refine wpAnyH_done (by kernel_rfl) ?_ _
          have hlk : (listK (pl ms) nn k).length + (listT (pl ms) en.2).length = (listK (pl ms) nn (k + 1)).length := by rw [hks, List.length_append, List.length_map]
          rw [hlk]
          clear ho5 hks hlk hfit
          go_wp2_with fail
          go_roundw
          case rel =>
            exact ⟨k + 1, by go_num, hlt, HO6, HB5⟩
          case measure => simp [RowKit.intOf]; omega
        · have iL : decide (k < nn.names.length) = false := decide_eq_false hlt
          have iL2 : decide ((k : Int) < (nn.names.length : Int)) = false := decide_eq_false (by omega)
          have hke : k = nn.names.length := by omega
          subst hke
          clear hlt
          have HO2 := HO.out
          rw [HA.out] at HO2
          go_wp2_with fail
          rw [HA.out]
          go_ret
          exact ⟨_, rfl, own_mono HO2 hB4.size, hB4.trans (HB.out.mono hB4.size)⟩
set_option maxRecDepth 100000 in
set_option maxHeartbeats 4000000 in
theorem rinside_c {ao : Option Addr} {cap : Nat} {ms : List NodeM} (most room : Int) (h : TreeOk (pl ms)) : ∀ (f : Nat) (i : Int) (w : World), Enough (pl ms) f i → RdM w.heap.size (.slice ao ms.length cap) ms w →
    Calls Try.prog 27 #[.agg #[.slice ao ms.length cap, .int .i64 most, .int .i64 room], .int .i64 i] w fun e w' => ∃ v, e = .returned v ∧ w'.ownsRow w.heap.size 3 1 v (insideT (pl ms) i).length (intsC (insideT (pl ms) i)) ∧ Below w.heap.size w w' := by
  have hml : ms.length ≤ 1000 := by have := h.len; rwa [pl_len] at this
  intro f
  induction f with
  | zero => intro i w hf; exact absurd hf.1 (by omega)
  | succ f ih =>
    intro i w hf hv
    obtain ⟨iE, hE, hEz, hEs, hEb⟩ := info_parts infoInt14
    have HV := Lib.hid hv
    have HF := Lib.hid hf
    clear hf hv
    go_enter Try.func27, Try.ntmps27
    go_upto_region 1 with (fail)
    refine code_fresh1 ?_
    intro W1 hb1 hA1 hs1
    obtain ⟨d0, d1, d2⟩ := cells3 hA1
    go_wp2_with fail
    refine (rget_any _ ms most room i W1 (rdm_keep HV.out hb1) (by omega)).mono ?_
    rintro e W2 ⟨vn, rfl, hrn, hb2⟩
    obtain ⟨aon, capn, ev, _, _⟩ := Rd.form hrn
    dsimp only at ev
    subst ev
    have hD2 := (hb2.block _ (by omega)).trans hA1
    have hB2 : Below w.heap.size w W2 := ret_tr hb1 hb2
    have hlt2 : w.heap.size < W2.heap.size := lt_some hD2
    have HN := Lib.hid (show nodeL (pl ms) i = getL (pl ms) i from rfl)
    have hnn : (getL (pl ms) i).names.length ≤ 10000 := getL_small h.nam i
    have hnl2 : ∀ e ∈ (getL (pl ms) i).names, e.1.length ≤ 12 := getL_names h.nm i
    generalize getL (pl ms) i = nn at *
    clear d0 d1 d2 hA1 hb1 hb2
    go_upto_region 2 with (first
      | (refine wpList_fresh1 ?_; intro W3 hb3 hA3 hs3; have hD3 := (hb3.block _ hlt2).trans hD2; have hrn3 := rd_keep hrn hb3; have hB3 := ret_tr hB2 hb3; have hK3 := hb3; have h_n := hA3; clear hb3 hA3)
      | (refine wpList_store_row rfl 49 _ _ rfl _ rfl rfl h_n rfl (by kernel_rfl) rfl ?_; intro W4 hb4 hg4 hs4 hn4))
    (try simp only [List.getElem_toArray]); (try simp only [List.getElem_cons_succ]); (try simp only [List.getElem_cons_zero]); (try simp only [Act.put]); (try simp only [List.setIfInBounds_toArray]); (try simp only [List.set_cons_succ]); (try simp only [List.set_cons_zero])
    have hD4 := (hg4 _ (by omega)).trans hD3
    have hrn4 : Rd W4.heap.size 2 (.slice aon nn.names.length capn) nn.names.length (ents nn.names) W4 := ((Rd.mono hrn (Nat.le_refl _)).below (Below.refl _ _) |> fun _ => (rd_keep hrn (show Below W2.heap.size W2 W4 from ⟨hb4.os.trans hK3.os, hb4.tape.trans hK3.tape, hb4.output.trans hK3.output, by have := hK3.size; omega, fun g hg => (hg4 g (by omega)).trans (hK3.block g hg)⟩)))
    have hB4 : Below w.heap.size w W4 := hB3.trans (hb4.mono (by omega))
    have hlt4 : W2.heap.size < W4.heap.size := lt_some hn4
    clear hrn hrn3 hD2 hD3 hB2 hB3 hs3 h_n hb4 hg4 hs4 hK3
    cases hg : gotB (pl ms) i with
    | false =>
      have HE := Lib.hid (inside_no hg)
      clear hg
      go_wp2_with fail
      go_ret
      exact ⟨_, rfl, by rw [HE.out]; exact World.ownsRow_nil _ _ _ _, hB4⟩
    | true =>
      have HA := Lib.hid (inside_allK h.rig hg)
      rw [HN.out] at HA
      have HTL := Lib.hid (fun (k : Nat) (hk : k < (nodeL (pl ms) i).names.length) => tot_fit h.rig hg hk)
      rw [HN.out] at HTL
      have hch : ∀ e ∈ nn.names, Enough (pl ms) f e.2 := fun e he => enough_child h.rig HF.out (by rw [HN.out]; exact he)
      clear hg
      obtain ⟨n0, n1, n2, n3, n4, n5, n6, n7⟩ := cells8 hn4
      go_upto_region 5 with (fail)
      refine code_fresh1 ?_
      intro W5 hb5 hA5 hs5
      have HO := Lib.hid (show W5.ownsRow W4.heap.size 3 1 (.slice (some ⟨W4.heap.size, 0, none⟩) 1 1) (insideK (pl ms) i nn 0).length (intsC (insideK (pl ms) i nn 0)) from own_lit hA5 rfl)
      have HB := Lib.hid hb5
      clear hA5 hs5 hb5 n0 n1 n2 n3 n4 n5 n6
      go_wp2_with fail
      go_loopw [7, 8] (fun vo i0 wr => ∃ k : Nat, i0 = .int .i64 k ∧ k ≤ nn.names.length ∧ Hid (wr.ownsRow W4.heap.size 3 1 vo (insideK (pl ms) i nn k).length (intsC (insideK (pl ms) i nn k))) ∧ Hid (Below W4.heap.size W4 wr)) (fun _ i0 _ => nn.names.length - (RowKit.intOf i0).toNat)
      case atStart => exact ⟨0, rfl, Nat.zero_le _, HO, HB⟩
      case round =>
        clear HO HB
        obtain ⟨k, rfl, hk, HO, HB⟩ := hrel
        obtain ⟨aov, capv, ev⟩ := own_form HO.out
        subst ev
        have n7r := (HB.out.cell (p := ⟨W2.heap.size, 7, none⟩) hlt4).trans n7
        by_cases hlt : k < nn.names.length
        · have iL : decide (k < nn.names.length) = true := decide_eq_true hlt
          have iL2 : decide ((k : Int) < (nn.names.length : Int)) = true := decide_eq_true (by omega)
          have k0 : (0 : Int) ≤ (k : Int) := by omega
          have k1 : (k : Int) < (nn.names.length : Int) := by omega
          have w1 : IntKind.i64.wrap ((k : Int) + 1) = (k : Int) + 1 := Go.IntWalk.i64_in _ (by omega)
          obtain ⟨bN, oN, cN, eN, _, _, hbN, _, hcell⟩ := Rd.at hrn4 (show 0 < nn.names.length by omega)
          injection eN with eN1 _ eN2
          subst eN1
          subst eN2
          obtain ⟨en, hen⟩ : ∃ en, en = nn.names[k] := ⟨_, rfl⟩
          have ce0 := hcell _ _ (ents_at0 nn.names k hlt)
          have ce1 := hcell _ _ (ents_at1 nn.names k hlt)
          rw [← hen] at ce0 ce1
          rw [← Nat.add_assoc] at ce1
          have HE := Lib.hid hen
          clear hen hcell
          have CR := Lib.hid (fun (V : World) (hb : Below W4.heap.size W4 V) => (⟨(hb.cell (p := ⟨W2.heap.size, 7, none⟩) hlt4).trans n7, (hb.cell (p := ⟨bN, oN + k * 2, none⟩) hbN).trans ce0, (hb.cell (p := ⟨bN, oN + k * 2 + 1, none⟩) hbN).trans ce1, (hb.block _ (by omega)).trans hD4, trivial⟩ : V.cell? ⟨W2.heap.size, 7, none⟩ = some (.slice (some ⟨bN, oN, none⟩) nn.names.length capn) ∧ V.cell? ⟨bN, oN + k * 2, none⟩ = some (.string (bs en.1)) ∧ V.cell? ⟨bN, oN + k * 2 + 1, none⟩ = some (.int .i64 en.2) ∧ V.heap[w.heap.size]? = some (.cells #[.slice ao ms.length cap, .int .i64 most, .int .i64 room] 35 (0, 0)) ∧ True))
          have HR := Lib.hid (fun (V : World) (hb : Below W4.heap.size W4 V) => ((HV.out.below (hB4.trans (hb.mono hB4.size))).mono (hB4.trans (hb.mono hB4.size)).size : RdM V.heap.size (.slice ao ms.length cap) ms V))
          clear ce0 ce1
          go_upto_region 8 with (fail)
          clear n7r iL iL2
          refine wp_region_held_drew (S := fun V => V.cell? ⟨W2.heap.size, 7, none⟩ = some (.slice (some ⟨bN, oN, none⟩) nn.names.length capn) ∧ V.cell? ⟨bN, oN + k * 2, none⟩ = some (.string (bs en.1)) ∧ V.cell? ⟨bN, oN + k * 2 + 1, none⟩ = some (.int .i64 en.2) ∧ V.heap[w.heap.size]? = some (.cells #[.slice ao ms.length cap, .int .i64 most, .int .i64 room] 35 (0, 0)) ∧ True) (by kernel_rfl) (CR.out _ HB.out.drew) (fun hHeld => ?_)
          have HO2 := Lib.hid (World.ownsRow.drew HO.out)
          have HB2 := Lib.hid HB.out.drew
          generalize wr.drew = V2 at *
          clear HO HB
          refine wpAnyH_take (i := 0) (v := ?v15) rfl (by kernel_rfl) (by kernel_rfl) (by kernel_rfl) (fun _ _ _ h => h) (Or.inl ⟨by rfl, ?hy15⟩) hHeld ?rest15
          case hy15 => (intro w hSw; (try dsimp only at hSw); (try go_split_ands); go_simp; first | done | with_reducible rfl)
          (try simp only [List.getElem_toArray]); (try simp only [List.getElem_cons_succ]); (try simp only [List.getElem_cons_zero]); (try simp only [Act.put]); (try simp only [List.setIfInBounds_toArray]); (try simp only [List.set_cons_succ]); (try simp only [List.set_cons_zero])
          refine wpAnyH_take (i := 2) (v := ?v16) rfl (by kernel_rfl) (by kernel_rfl) (by kernel_rfl) (fun _ _ _ h => h) (Or.inl ⟨by rfl, ?hy16⟩) hHeld ?rest16
          case hy16 => (intro w hSw; (try dsimp only at hSw); (try go_split_ands); go_simp; first | done | with_reducible rfl)
          (try simp only [List.getElem_toArray]); (try simp only [List.getElem_cons_succ]); (try simp only [List.getElem_cons_zero]); (try simp only [Act.put]); (try simp only [List.setIfInBounds_toArray]); (try simp only [List.set_cons_succ]); (try simp only [List.set_cons_zero])
          refine wpAnyH_take (i := 3) (v := ?v17) rfl (by kernel_rfl) (by kernel_rfl) (by kernel_rfl) (fun _ _ _ h => h) (Or.inl ⟨by rfl, ?hy17⟩) hHeld ?rest17
          case hy17 => (intro w hSw; (try dsimp only at hSw); (try go_split_ands); go_simp; first | done | with_reducible rfl)
          (try simp only [List.getElem_toArray]); (try simp only [List.getElem_cons_succ]); (try simp only [List.getElem_cons_zero]); (try simp only [Act.put]); (try simp only [List.setIfInBounds_toArray]); (try simp only [List.set_cons_succ]); (try simp only [List.set_cons_zero])
          refine wpAnyH_take (i := 4) (v := ?v18) rfl (by kernel_rfl) (by kernel_rfl) (by kernel_rfl) (fun _ _ _ h => h) (Or.inl ⟨by rfl, ?hy18⟩) hHeld ?rest18
          case hy18 => (intro w hSw; (try dsimp only at hSw); (try go_split_ands); go_simp; first | done | with_reducible rfl)
          (try simp only [List.getElem_toArray]); (try simp only [List.getElem_cons_succ]); (try simp only [List.getElem_cons_zero]); (try simp only [Act.put]); (try simp only [List.setIfInBounds_toArray]); (try simp only [List.set_cons_succ]); (try simp only [List.set_cons_zero])
          refine wpAnyH_take (i := 5) (v := ?v19) rfl (by kernel_rfl) (by kernel_rfl) (by kernel_rfl) (fun _ _ _ h => h) (Or.inl ⟨by rfl, ?hy19⟩) hHeld ?rest19
          case hy19 => (intro w hSw; (try dsimp only at hSw); (try go_split_ands); go_simp; first | done | with_reducible rfl)
          (try simp only [List.getElem_toArray]); (try simp only [List.getElem_cons_succ]); (try simp only [List.getElem_cons_zero]); (try simp only [Act.put]); (try simp only [List.setIfInBounds_toArray]); (try simp only [List.set_cons_succ]); (try simp only [List.set_cons_zero])
          refine wpAnyH_take (i := 6) (v := ?v20) rfl (by kernel_rfl) (by kernel_rfl) (by kernel_rfl) (fun _ _ _ h => h) (Or.inl ⟨by rfl, ?hy20⟩) hHeld ?rest20
          case hy20 => (intro w hSw; (try dsimp only at hSw); (try go_split_ands); go_simp; first | done | with_reducible rfl)
          (try simp only [List.getElem_toArray]); (try simp only [List.getElem_cons_succ]); (try simp only [List.getElem_cons_zero]); (try simp only [Act.put]); (try simp only [List.setIfInBounds_toArray]); (try simp only [List.set_cons_succ]); (try simp only [List.set_cons_zero])
          refine wpAnyH_take (i := 7) (v := ?v21) rfl (by kernel_rfl) (by kernel_rfl) (by kernel_rfl) (fun _ _ _ h => h) (Or.inl ⟨by rfl, ?hy21⟩) hHeld ?rest21
          case hy21 => (intro w hSw; (try dsimp only at hSw); (try go_split_ands); go_simp; first | done | with_reducible rfl)
          (try simp only [List.getElem_toArray]); (try simp only [List.getElem_cons_succ]); (try simp only [List.getElem_cons_zero]); (try simp only [Act.put]); (try simp only [List.setIfInBounds_toArray]); (try simp only [List.set_cons_succ]); (try simp only [List.set_cons_zero])
          refine wpAnyH_take (i := 1) rfl (by kernel_rfl) (by kernel_rfl) (by kernel_rfl) (fun _ _ _ h => h) (yieldsIf_load_row (by rfl) 35 _ rfl _ rfl 35 _ (0, 0) _ (fun _ h => h.2.2.2.1) Try.underlying35 rfl (by kernel_rfl)) hHeld ?_
          (try simp only [List.getElem_toArray]); (try simp only [List.getElem_cons_succ]); (try simp only [List.getElem_cons_zero]); (try simp only [Act.put]); (try simp only [List.setIfInBounds_toArray]); (try simp only [List.set_cons_succ]); (try simp only [List.set_cons_zero])
          refine wpAnyH_ready (rs := [8]) (by kernel_rfl) (by simp) ?_
          refine AllReadyH.cons rfl (fun K hK => ?_) AllReadyH.nil
          go_simp
          refine (ih en.2 V2 (hch _ (by rw [HE.out]; exact List.getElem_mem hlt)) (HR.out _ HB2.out)).mono ?_
          rintro e V3 ⟨v3, rfl, ho3, hb3⟩
          obtain ⟨ao3, cp3, rfl⟩ := own_form ho3
          have HB3 := Lib.hid (HB2.out.trans (hb3.mono HB2.out.size))
          have HO3 := Lib.hid (ownsRow_below HO2.out hb3 (Nat.le_refl _))
          have hrd3 := Lib.hid (Rd.own ho3 (Nat.le_refl _))
          go_wp2_with fail
          refine hK.out _ _ (CR.out _ HB3.out) (fun hHeld => ?_)
          clear hK K hb3 ho3 HO2
          (try simp only [List.getElem_toArray]); (try simp only [List.getElem_cons_succ]); (try simp only [List.getElem_cons_zero]); (try simp only [Act.put]); (try simp only [List.setIfInBounds_toArray]); (try simp only [List.set_cons_succ]); (try simp only [List.set_cons_zero])
          have hfit : (insideK (pl ms) i nn k).length + (insideT (pl ms) en.2).length ≤ 9999 := by
            have h1 := HTL.out k hlt
            rw [← HE.out, ← insideK_len h.rig, HN.out, list_inside h.rig] at h1
            have h2 := h.many i
            omega
          refine wpAnyH_ready (rs := [9]) (by kernel_rfl) (by simp) ?_
          refine AllReadyH.cons rfl (fun K hK => ?_) AllReadyH.nil
          rw [if_pos (by rfl)]
          refine wp_append_rd (.tmp 26) (.tmp 34) 38 rfl W4.heap.size 3 iE _ 1 8 Try.underlying38 hE hEz hEs hEb rfl (by decide) _ _ _ rfl HO3.out _ _ (insideT (pl ms) en.2).length _ rfl hrd3.out (intsC_one _) (by unfold maxLen; omega) (by omega) HB3.out.size ?_
          intro v5 W6 ho5 hg5
          have HB5 := Lib.hid (HB3.out.grown hg5 HB3.out.size fun j ej => (HO3.out.lt j ej).1)
          obtain ⟨aov5, capv5, rfl⟩ := own_form ho5
          refine hK.out _ _ (CR.out _ HB5.out) (fun hHeld => ?_)
          clear hK K hg5 hrd3 HO3
          (try simp only [List.getElem_toArray]); (try simp only [List.getElem_cons_succ]); (try simp only [List.getElem_cons_zero]); (try simp only [Act.put]); (try simp only [List.setIfInBounds_toArray]); (try simp only [List.set_cons_succ]); (try simp only [List.set_cons_zero])
          refine wpAnyH_take (i := 10) (v := ?v22) rfl (by kernel_rfl) (by kernel_rfl) (by kernel_rfl) (fun _ _ _ h => h) (Or.inl ⟨by rfl, ?hy22⟩) hHeld ?rest22
          case hy22 => (intro w hSw; (try dsimp only at hSw); (try go_split_ands); go_simp; first | done | with_reducible rfl)
          (try simp only [List.getElem_toArray]); (try simp only [List.getElem_cons_succ]); (try simp only [List.getElem_cons_zero]); (try simp only [Act.put]); (try simp only [List.setIfInBounds_toArray]); (try simp only [List.set_cons_succ]); (try simp only [List.set_cons_zero])
          have hks := insideK_succ (l := pl ms) (i := i) hlt
          rw [← HE.out] at hks
          have HO6 := Lib.hid (show W6.ownsRow W4.heap.size 3 1 (.slice aov5 (insideK (pl ms) i nn (k + 1)).length capv5) (insideK (pl ms) i nn (k + 1)).length (intsC (insideK (pl ms) i nn (k + 1))) by
            rw [hks, List.length_append, intsC_app]
            exact ho5)
          skip
          refine wpAnyH_done (by kernel_rfl) ?_ _
          have hlk : (insideK (pl ms) i nn k).length + (insideT (pl ms) en.2).length = (insideK (pl ms) i nn (k + 1)).length := by rw [hks, List.length_append]
          rw [hlk]
          clear ho5 hks hlk hfit
          go_wp2_with fail
          go_roundw
          case rel =>
            exact ⟨k + 1, by go_num, hlt, HO6, HB5⟩
          case measure => simp [RowKit.intOf]; omega
        · have iL : decide (k < nn.names.length) = false := decide_eq_false hlt
          have iL2 : decide ((k : Int) < (nn.names.length : Int)) = false := decide_eq_false (by omega)
          have hke : k = nn.names.length := by omega
          subst hke
          clear hlt
          have HO2 := HO.out
          rw [HA.out] at HO2
          go_wp2_with fail
          rw [HA.out]
          go_ret
          exact ⟨_, rfl, own_mono HO2 hB4.size, hB4.trans (HB.out.mono hB4.size)⟩
set_option maxRecDepth 100000 in
set_option maxHeartbeats 4000000 in
theorem rdepth_c {ao : Option Addr} {cap : Nat} {ms : List NodeM} (most room : Int) (h : TreeOk (pl ms)) : ∀ (f : Nat) (i : Int) (w : World), Enough (pl ms) f i → RdM w.heap.size (.slice ao ms.length cap) ms w →
    Calls Try.prog 28 #[.agg #[.slice ao ms.length cap, .int .i64 most, .int .i64 room], .int .i64 i] w fun e w' => e = .returned (.int .i64 (depthT (pl ms) i)) ∧ Below w.heap.size w w' := by
  have hml : ms.length ≤ 1000 := by have := h.len; rwa [pl_len] at this
  intro f
  induction f with
  | zero => intro i w hf; exact absurd hf.1 (by omega)
  | succ f ih =>
    intro i w hf hv
    have HV := Lib.hid hv
    have HF := Lib.hid hf
    clear hf hv
    go_enter Try.func28, Try.ntmps28
    go_upto_region 1 with (fail)
    refine code_fresh1 ?_
    intro W1 hb1 hA1 hs1
    obtain ⟨d0, d1, d2⟩ := cells3 hA1
    go_wp2_with fail
    refine (rget_any _ ms most room i W1 (rdm_keep HV.out hb1) (by omega)).mono ?_
    rintro e W2 ⟨vn, rfl, hrn, hb2⟩
    obtain ⟨aon, capn, ev, _, _⟩ := Rd.form hrn
    dsimp only at ev
    subst ev
    have hD2 := (hb2.block _ (by omega)).trans hA1
    have hB2 : Below w.heap.size w W2 := ret_tr hb1 hb2
    have hlt2 : w.heap.size < W2.heap.size := lt_some hD2
    have HN := Lib.hid (show nodeL (pl ms) i = getL (pl ms) i from rfl)
    have hnn : (getL (pl ms) i).names.length ≤ 10000 := getL_small h.nam i
    have hnl2 : ∀ e ∈ (getL (pl ms) i).names, e.1.length ≤ 12 := getL_names h.nm i
    generalize getL (pl ms) i = nn at *
    clear d0 d1 d2 hA1 hb1 hb2
    go_upto_region 2 with (first
      | (refine wpList_fresh1 ?_; intro W3 hb3 hA3 hs3; have hD3 := (hb3.block _ hlt2).trans hD2; have hrn3 := rd_keep hrn hb3; have hB3 := ret_tr hB2 hb3; have hK3 := hb3; have h_n := hA3; clear hb3 hA3)
      | (refine wpList_store_row rfl 49 _ _ rfl _ rfl rfl h_n rfl (by kernel_rfl) rfl ?_; intro W4 hb4 hg4 hs4 hn4))
    (try simp only [List.getElem_toArray]); (try simp only [List.getElem_cons_succ]); (try simp only [List.getElem_cons_zero]); (try simp only [Act.put]); (try simp only [List.setIfInBounds_toArray]); (try simp only [List.set_cons_succ]); (try simp only [List.set_cons_zero])
    have hD4 := (hg4 _ (by omega)).trans hD3
    have hrn4 : Rd W4.heap.size 2 (.slice aon nn.names.length capn) nn.names.length (ents nn.names) W4 := ((Rd.mono hrn (Nat.le_refl _)).below (Below.refl _ _) |> fun _ => (rd_keep hrn (show Below W2.heap.size W2 W4 from ⟨hb4.os.trans hK3.os, hb4.tape.trans hK3.tape, hb4.output.trans hK3.output, by have := hK3.size; omega, fun g hg => (hg4 g (by omega)).trans (hK3.block g hg)⟩)))
    have hB4 : Below w.heap.size w W4 := hB3.trans (hb4.mono (by omega))
    have hlt4 : W2.heap.size < W4.heap.size := lt_some hn4
    clear hrn hrn3 hD2 hD3 hB2 hB3 hs3 h_n hb4 hg4 hs4 hK3
    cases hg : gotB (pl ms) i with
    | false =>
      have HE := Lib.hid (depth_no hg)
      clear hg
      go_wp2_with fail
      go_ret
      exact ⟨by rw [HE.out]; rfl, hB4⟩
    | true =>
      have HA := Lib.hid (depth_all h.rig hg)
      rw [HN.out] at HA
      have hch : ∀ e ∈ nn.names, Enough (pl ms) f e.2 := fun e he => enough_child h.rig HF.out (by rw [HN.out]; exact he)
      clear hg
      obtain ⟨n0, n1, n2, n3, n4, n5, n6, n7⟩ := cells8 hn4
      have HB := Lib.hid (Below.refl W4.heap.size W4)
      clear n0 n1 n2 n3 n4 n5 n6
      go_wp2_with fail
      go_loopw [7, 8] (fun vo i0 wr => ∃ k : Nat, vo = .int .i64 (depthK (pl ms) nn k : Nat) ∧ i0 = .int .i64 k ∧ k ≤ nn.names.length ∧ Hid (Below W4.heap.size W4 wr)) (fun _ i0 _ => nn.names.length - (RowKit.intOf i0).toNat)
      case atStart => exact ⟨0, by simp [depthK, maxN], rfl, Nat.zero_le _, HB⟩
      case round =>
        clear HB
        obtain ⟨k, rfl, rfl, hk, HB⟩ := hrel
        have n7r := (HB.out.cell (p := ⟨W2.heap.size, 7, none⟩) hlt4).trans n7
        by_cases hlt : k < nn.names.length
        · have iL : decide (k < nn.names.length) = true := decide_eq_true hlt
          have iL2 : decide ((k : Int) < (nn.names.length : Int)) = true := decide_eq_true (by omega)
          have k0 : (0 : Int) ≤ (k : Int) := by omega
          have k1 : (k : Int) < (nn.names.length : Int) := by omega
          have w1 : IntKind.i64.wrap ((k : Int) + 1) = (k : Int) + 1 := Go.IntWalk.i64_in _ (by omega)
          obtain ⟨bN, oN, cN, eN, _, _, hbN, _, hcell⟩ := Rd.at hrn4 (show 0 < nn.names.length by omega)
          injection eN with eN1 _ eN2
          subst eN1
          subst eN2
          obtain ⟨en, hen⟩ : ∃ en, en = nn.names[k] := ⟨_, rfl⟩
          have ce0 := hcell _ _ (ents_at0 nn.names k hlt)
          have ce1 := hcell _ _ (ents_at1 nn.names k hlt)
          rw [← hen] at ce0 ce1
          rw [← Nat.add_assoc] at ce1
          have HE := Lib.hid hen
          clear hen hcell
          have CR := Lib.hid (fun (V : World) (hb : Below W4.heap.size W4 V) => (⟨(hb.cell (p := ⟨W2.heap.size, 7, none⟩) hlt4).trans n7, (hb.cell (p := ⟨bN, oN + k * 2, none⟩) hbN).trans ce0, (hb.cell (p := ⟨bN, oN + k * 2 + 1, none⟩) hbN).trans ce1, (hb.block _ (by omega)).trans hD4, trivial⟩ : V.cell? ⟨W2.heap.size, 7, none⟩ = some (.slice (some ⟨bN, oN, none⟩) nn.names.length capn) ∧ V.cell? ⟨bN, oN + k * 2, none⟩ = some (.string (bs en.1)) ∧ V.cell? ⟨bN, oN + k * 2 + 1, none⟩ = some (.int .i64 en.2) ∧ V.heap[w.heap.size]? = some (.cells #[.slice ao ms.length cap, .int .i64 most, .int .i64 room] 35 (0, 0)) ∧ True))
          have HR := Lib.hid (fun (V : World) (hb : Below W4.heap.size W4 V) => ((HV.out.below (hB4.trans (hb.mono hB4.size))).mono (hB4.trans (hb.mono hB4.size)).size : RdM V.heap.size (.slice ao ms.length cap) ms V))
          clear ce0 ce1
          go_upto_region 8 with (fail)
          clear n7r iL iL2
          refine wp_region_held_drew (S := fun V => V.cell? ⟨W2.heap.size, 7, none⟩ = some (.slice (some ⟨bN, oN, none⟩) nn.names.length capn) ∧ V.cell? ⟨bN, oN + k * 2, none⟩ = some (.string (bs en.1)) ∧ V.cell? ⟨bN, oN + k * 2 + 1, none⟩ = some (.int .i64 en.2) ∧ V.heap[w.heap.size]? = some (.cells #[.slice ao ms.length cap, .int .i64 most, .int .i64 room] 35 (0, 0)) ∧ True) (by kernel_rfl) (CR.out _ HB.out.drew) (fun hHeld => ?_)
          have HB2 := Lib.hid HB.out.drew
          generalize wr.drew = V2 at *
          clear HB
          refine wpAnyH_take (i := 0) (v := ?v23) rfl (by kernel_rfl) (by kernel_rfl) (by kernel_rfl) (fun _ _ _ h => h) (Or.inl ⟨by rfl, ?hy23⟩) hHeld ?rest23
          case hy23 => (intro w hSw; (try dsimp only at hSw); (try go_split_ands); go_simp; first | done | with_reducible rfl)
          (try simp only [List.getElem_toArray]); (try simp only [List.getElem_cons_succ]); (try simp only [List.getElem_cons_zero]); (try simp only [Act.put]); (try simp only [List.setIfInBounds_toArray]); (try simp only [List.set_cons_succ]); (try simp only [List.set_cons_zero])
          refine wpAnyH_take (i := 2) (v := ?v24) rfl (by kernel_rfl) (by kernel_rfl) (by kernel_rfl) (fun _ _ _ h => h) (Or.inl ⟨by rfl, ?hy24⟩) hHeld ?rest24
          case hy24 => (intro w hSw; (try dsimp only at hSw); (try go_split_ands); go_simp; first | done | with_reducible rfl)
          (try simp only [List.getElem_toArray]); (try simp only [List.getElem_cons_succ]); (try simp only [List.getElem_cons_zero]); (try simp only [Act.put]); (try simp only [List.setIfInBounds_toArray]); (try simp only [List.set_cons_succ]); (try simp only [List.set_cons_zero])
          refine wpAnyH_take (i := 3) (v := ?v25) rfl (by kernel_rfl) (by kernel_rfl) (by kernel_rfl) (fun _ _ _ h => h) (Or.inl ⟨by rfl, ?hy25⟩) hHeld ?rest25
          case hy25 => (intro w hSw; (try dsimp only at hSw); (try go_split_ands); go_simp; first | done | with_reducible rfl)
          (try simp only [List.getElem_toArray]); (try simp only [List.getElem_cons_succ]); (try simp only [List.getElem_cons_zero]); (try simp only [Act.put]); (try simp only [List.setIfInBounds_toArray]); (try simp only [List.set_cons_succ]); (try simp only [List.set_cons_zero])
          refine wpAnyH_take (i := 4) (v := ?v26) rfl (by kernel_rfl) (by kernel_rfl) (by kernel_rfl) (fun _ _ _ h => h) (Or.inl ⟨by rfl, ?hy26⟩) hHeld ?rest26
          case hy26 => (intro w hSw; (try dsimp only at hSw); (try go_split_ands); go_simp; first | done | with_reducible rfl)
          (try simp only [List.getElem_toArray]); (try simp only [List.getElem_cons_succ]); (try simp only [List.getElem_cons_zero]); (try simp only [Act.put]); (try simp only [List.setIfInBounds_toArray]); (try simp only [List.set_cons_succ]); (try simp only [List.set_cons_zero])
          refine wpAnyH_take (i := 5) (v := ?v27) rfl (by kernel_rfl) (by kernel_rfl) (by kernel_rfl) (fun _ _ _ h => h) (Or.inl ⟨by rfl, ?hy27⟩) hHeld ?rest27
          case hy27 => (intro w hSw; (try dsimp only at hSw); (try go_split_ands); go_simp; first | done | with_reducible rfl)
          (try simp only [List.getElem_toArray]); (try simp only [List.getElem_cons_succ]); (try simp only [List.getElem_cons_zero]); (try simp only [Act.put]); (try simp only [List.setIfInBounds_toArray]); (try simp only [List.set_cons_succ]); (try simp only [List.set_cons_zero])
          refine wpAnyH_take (i := 6) (v := ?v28) rfl (by kernel_rfl) (by kernel_rfl) (by kernel_rfl) (fun _ _ _ h => h) (Or.inl ⟨by rfl, ?hy28⟩) hHeld ?rest28
          case hy28 => (intro w hSw; (try dsimp only at hSw); (try go_split_ands); go_simp; first | done | with_reducible rfl)
          (try simp only [List.getElem_toArray]); (try simp only [List.getElem_cons_succ]); (try simp only [List.getElem_cons_zero]); (try simp only [Act.put]); (try simp only [List.setIfInBounds_toArray]); (try simp only [List.set_cons_succ]); (try simp only [List.set_cons_zero])
          refine wpAnyH_take (i := 7) (v := ?v29) rfl (by kernel_rfl) (by kernel_rfl) (by kernel_rfl) (fun _ _ _ h => h) (Or.inl ⟨by rfl, ?hy29⟩) hHeld ?rest29
          case hy29 => (intro w hSw; (try dsimp only at hSw); (try go_split_ands); go_simp; first | done | with_reducible rfl)
          (try simp only [List.getElem_toArray]); (try simp only [List.getElem_cons_succ]); (try simp only [List.getElem_cons_zero]); (try simp only [Act.put]); (try simp only [List.setIfInBounds_toArray]); (try simp only [List.set_cons_succ]); (try simp only [List.set_cons_zero])
          refine wpAnyH_take (i := 1) rfl (by kernel_rfl) (by kernel_rfl) (by kernel_rfl) (fun _ _ _ h => h) (yieldsIf_load_row (by rfl) 35 _ rfl _ rfl 35 _ (0, 0) _ (fun _ h => h.2.2.2.1) Try.underlying35 rfl (by kernel_rfl)) hHeld ?_
          (try simp only [List.getElem_toArray]); (try simp only [List.getElem_cons_succ]); (try simp only [List.getElem_cons_zero]); (try simp only [Act.put]); (try simp only [List.setIfInBounds_toArray]); (try simp only [List.set_cons_succ]); (try simp only [List.set_cons_zero])
          refine wpAnyH_ready (rs := [8]) (by kernel_rfl) (by simp) ?_
          refine AllReadyH.cons rfl (fun K hK => ?_) AllReadyH.nil
          go_simp
          refine (ih en.2 V2 (hch _ (by rw [HE.out]; exact List.getElem_mem hlt)) (HR.out _ HB2.out)).mono ?_
          rintro e V3 ⟨rfl, hb3⟩
          have HB3 := Lib.hid (HB2.out.trans (hb3.mono HB2.out.size))
          go_wp2_with fail
          refine hK.out _ _ (CR.out _ HB3.out) (fun hHeld => ?_)
          clear hK K hb3
          (try simp only [List.getElem_toArray]); (try simp only [List.getElem_cons_succ]); (try simp only [List.getElem_cons_zero]); (try simp only [Act.put]); (try simp only [List.setIfInBounds_toArray]); (try simp only [List.set_cons_succ]); (try simp only [List.set_cons_zero])
          refine wpAnyH_take (i := 9) (v := ?v30) rfl (by kernel_rfl) (by kernel_rfl) (by kernel_rfl) (fun _ _ _ h => h) (Or.inl ⟨by rfl, ?hy30⟩) hHeld ?rest30
          case hy30 => (intro w hSw; (try dsimp only at hSw); (try go_split_ands); go_simp; first | done | with_reducible rfl)
          (try simp only [List.getElem_toArray]); (try simp only [List.getElem_cons_succ]); (try simp only [List.getElem_cons_zero]); (try simp only [Act.put]); (try simp only [List.setIfInBounds_toArray]); (try simp only [List.set_cons_succ]); (try simp only [List.set_cons_zero])
          refine wpAnyH_take (i := 10) (v := ?v31) rfl (by kernel_rfl) (by kernel_rfl) (by kernel_rfl) (fun _ _ _ h => h) (Or.inl ⟨by rfl, ?hy31⟩) hHeld ?rest31
          case hy31 => (intro w hSw; (try dsimp only at hSw); (try go_split_ands); go_simp; first | done | with_reducible rfl)
          (try simp only [List.getElem_toArray]); (try simp only [List.getElem_cons_succ]); (try simp only [List.getElem_cons_zero]); (try simp only [Act.put]); (try simp only [List.setIfInBounds_toArray]); (try simp only [List.set_cons_succ]); (try simp only [List.set_cons_zero])
          refine wpAnyH_done (by kernel_rfl) ?_ _
          have HM := Lib.hid (depthK_succ (l := pl ms) hlt)
          rw [← HE.out] at HM
          rw [show max ((depthK (pl ms) nn k : Nat) : Int) ((depthT (pl ms) en.2 : Nat) : Int) = ((depthK (pl ms) nn (k + 1) : Nat) : Int) by rw [HM.out]; omega]
          go_wp2_with fail
          go_roundw
          case rel =>
            exact ⟨k + 1, rfl, by go_num, hlt, HB3⟩
          case measure => simp [RowKit.intOf]; omega
        · have iL : decide (k < nn.names.length) = false := decide_eq_false hlt
          have iL2 : decide ((k : Int) < (nn.names.length : Int)) = false := decide_eq_false (by omega)
          have hke : k = nn.names.length := by omega
          subst hke
          clear hlt
          have hwd : IntKind.i64.wrap (1 + (depthK (pl ms) nn nn.names.length : Int)) = 1 + (depthK (pl ms) nn nn.names.length : Int) := Go.IntWalk.i64_in _ (by have := HA.out; have h2 := depth_used h.rig i; have h3 := used_le (pl ms); have h4 := h.len; omega)
          go_wp2_with fail
          go_ret
          exact ⟨by rw [← HA.out]; go_num, hB4.trans (HB.out.mono hB4.size)⟩
end Go.Proofs.Ytilhiafmljmljaa
