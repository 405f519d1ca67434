/-
  Is a disk not too much to look at? Are all nodes but one as those of another disk?
-/
import Derived.Test.YthpcldmhamjnbaaCntSn
import Derived.Test.YthpcldmhamjnbaaCntPlain
import Derived.Test.YthpcldmhamjnbaaDskC
import Derived.Deep.RegionHeld3
import Derived.Deep.DeepCutAuto
namespace Go.Proofs.Ythpcldmhamjnbaa
open Go.RowKit Go.Shelf
attribute [local go_sem ↓] Go.wp_at_zero Go.wp_at_succ

def smallQ (l : List NodeL) : Bool := decide (l.length ≤ 100) && l.all fun n => decide (n.data.length ≤ 1500) && decide (n.names.length ≤ 60)
theorem small_Q {l : List NodeL} (h : smallQ l = true) : Small l := by
  unfold smallQ at h
  simp only [Bool.and_eq_true, decide_eq_true_iff, List.all_eq_true] at h
  exact ⟨by omega, fun n hn => ⟨by have := (h.2 n hn).1; omega, by have := (h.2 n hn).2; omega⟩⟩
def TinyQ (l : List NodeL) (k : Nat) : Prop := (l.take k).all (fun n => decide (n.data.length ≤ 1500) && decide (n.names.length ≤ 60)) = true
theorem tinyq_succ {l : List NodeL} {k : Nat} (h : TinyQ l k) (hk : k < l.length) (h1 : l[k].data.length ≤ 1500) (h2 : l[k].names.length ≤ 60) : TinyQ l (k + 1) := by
  unfold TinyQ at h ⊢
  rw [List.take_succ_eq_append_getElem hk, List.all_append, h]
  simp [h1, h2]
theorem tinyq_bad {l : List NodeL} {k : Nat} (hk : k < l.length) (h : 1500 < l[k].data.length ∨ 60 < l[k].names.length) : smallQ l = false := by
  unfold smallQ
  rw [Bool.and_eq_false_iff]
  refine .inr ?_
  rw [List.all_eq_false]
  refine ⟨l[k], List.getElem_mem hk, ?_⟩
  simp only [Bool.and_eq_true, decide_eq_true_iff]
  omega
theorem tinyq_end {l : List NodeL} (h : TinyQ l l.length) (hl : l.length ≤ 100) : smallQ l = true := by
  unfold TinyQ at h
  rw [List.take_length] at h
  unfold smallQ
  rw [h, decide_eq_true hl]
  rfl
theorem muchq_bad {l : List NodeL} (hl : 100 < l.length) : smallQ l = false := by
  unfold smallQ
  rw [decide_eq_false (by omega)]
  rfl
set_option maxRecDepth 100000 in
set_option maxHeartbeats 4000000 in
theorem small_any (v : Value) (ms : List NodeM) (most room : Int) (w : World) (hv : RdM w.heap.size v ms w) :
    Calls Try.prog 9 #[.agg #[v, .int .i64 most, .int .i64 room]] w fun e w' => e = .returned (.bool (smallQ (pl ms))) ∧ Below w.heap.size w w' := by
  obtain ⟨ao, cap, rfl, _, _⟩ := rdm_form hv
  have hb0 : Below w.heap.size w (w.alloc (.cells #[.slice ao ms.length cap, .int .i64 most, .int .i64 room] 24)) := (Below.refl _ w).alloc (Nat.le_refl _) _
  have HV := Lib.hid (hv.below hb0)
  clear hv
  go_enter Try.func9, Try.ntmps9
  go_wp2_with fail
  go_loop [3] (fun i => ∃ k : Nat, i = .int .i64 k ∧ k ≤ ms.length ∧ k ≤ 110 ∧ Hid (TinyQ (pl ms) k)) (fun i => ms.length - (intOf i).toNat)
  case atStart => exact ⟨0, rfl, Nat.zero_le _, by decide, Lib.hid rfl⟩
  case round =>
    obtain ⟨k, rfl, hk, hk2, hN⟩ := hrel
    by_cases hlt : k < ms.length ∧ k < 110
    · obtain ⟨hlt, h110⟩ := hlt
      obtain ⟨b, off, n, aon, capn, rfl, hb, hn, -, -, c0, c1, c2, c3, c4, c5, c6, c7⟩ := node_at HV.out k hlt
      have hI : decide (k < ms.length) = true := by simpa using hlt
      have hI2 : decide ((k : Int) < 110) = true := by simp; omega
      by_cases hd : 1500 < n.data.length
      · have hJ : decide ((1500 : Int) < (n.data.length : Int)) = true := by simp; omega
        have HB : Hid (smallQ (pl ms) = false) := Lib.hid (tinyq_bad (l := pl ms) (k := k) (by rw [pl_len]; exact hlt) (by rw [hn]; exact .inl hd))
        clear hn hd
        go_wp2_with fail
        go_ret
        exact ⟨ret_bool HB.out.symm, hb0⟩
      · have hJ : decide ((1500 : Int) < (n.data.length : Int)) = false := by simp; omega
        by_cases hm : 60 < n.names.length
        · have hJ2 : decide ((60 : Int) < (n.names.length : Int)) = true := by simp; omega
          have HB : Hid (smallQ (pl ms) = false) := Lib.hid (tinyq_bad (l := pl ms) (k := k) (by rw [pl_len]; exact hlt) (by rw [hn]; exact .inr hm))
          clear hn hd hm
          go_wp2_with fail
          go_ret
          exact ⟨ret_bool HB.out.symm, hb0⟩
        · have hJ2 : decide ((60 : Int) < (n.names.length : Int)) = false := by simp; omega
          have HN := Lib.hid (tinyq_succ hN.out (by rw [pl_len]; exact hlt) (by rw [hn]; omega) (by rw [hn]; omega))
          clear hn hd hm
          go_wp2_with fail
          go_round
          case rel => exact ⟨k + 1, by go_num, hlt, h110, HN⟩
          case measure => simp [intOf]; omega
    · by_cases hbig : 100 < ms.length
      · have HB : Hid (smallQ (pl ms) = false) := Lib.hid (muchq_bad (by rw [pl_len]; exact hbig))
        have hg : decide ((ms.length : Int) ≤ 100) = false := decide_eq_false (by omega)
        have hx : (decide (k < ms.length) = false) ∨ (decide (k < ms.length) = true ∧ decide ((k : Int) < 110) = false) := by
          by_cases h : k < ms.length
          · exact .inr ⟨by simpa using h, decide_eq_false (by omega)⟩
          · exact .inl (by simpa using h)
        clear hlt hbig
        rcases hx with hI | ⟨hI, hI2⟩
        · go_wp2_with fail
          go_ret
          exact ⟨ret_bool HB.out.symm, hb0⟩
        · go_wp2_with fail
          go_ret
          exact ⟨ret_bool HB.out.symm, hb0⟩
      · have hke : k = ms.length := by omega
        have HE := Lib.hid (tinyq_end (by have := hN.out; rwa [hke, ← pl_len] at this) (by rw [pl_len]; omega))
        have hg : decide ((ms.length : Int) ≤ 100) = true := decide_eq_true (by omega)
        have hI2 : decide (k < ms.length) = false := decide_eq_false (by omega)
        clear hlt hke
        go_wp2_with fail
        go_ret
        exact ⟨ret_bool HE.out.symm, hb0⟩
theorem small_g (l : List NodeL) (most room : Int) (v : Value) (W : World) (hg : GivesN l v W) :
    Calls Try.prog 9 #[.agg #[v, .int .i64 most, .int .i64 room]] W fun e w' => e = .returned (.bool (smallQ l)) ∧ Below W.heap.size W w' := by
  obtain ⟨m, rfl, h⟩ := hg
  exact small_any v m most room W h
theorem node_in {l : List NodeL} {ao : Option Addr} {cap : Nat} {W : World} (h : GivesN l (.slice ao l.length cap) W) (k : Nat) (n : NodeL) (hk : l[k]? = some n) :
    ∃ (b off : Nat) (aon : Option Addr) (capn : Nat), ao = some ⟨b, off, none⟩ ∧ b < W.heap.size ∧ RdNm W.heap.size (n, .slice aon n.names.length capn) W
      ∧ W.cell? ⟨b, off + k * 8, none⟩ = some (.int .i64 n.kind) ∧ W.cell? ⟨b, off + k * 8 + 1, none⟩ = some (.int .i64 n.mode) ∧ W.cell? ⟨b, off + k * 8 + 2, none⟩ = some (.int .i64 n.owner) ∧ W.cell? ⟨b, off + k * 8 + 3, none⟩ = some (.int .i64 n.links) ∧ W.cell? ⟨b, off + k * 8 + 4, none⟩ = some (.int .i64 n.opn) ∧ W.cell? ⟨b, off + k * 8 + 5, none⟩ = some (.int .i64 n.up) ∧ W.cell? ⟨b, off + k * 8 + 6, none⟩ = some (.string (bs n.data)) ∧ W.cell? ⟨b, off + k * 8 + 7, none⟩ = some (.slice aon n.names.length capn) := by
  obtain ⟨ms, rfl, hv⟩ := h
  have hlt : k < ms.length := by
    have := (List.getElem?_eq_some_iff.1 hk).1
    rwa [pl_len] at this
  rw [pl_len] at hv
  obtain ⟨b, off, m, aon, capn, e1, hb, hn, -, hr, cs⟩ := node_at hv k hlt
  have e : m = n := by
    rw [← hn]
    exact (List.getElem?_eq_some_iff.1 hk).2
  subst e
  exact ⟨b, off, aon, capn, e1, hb, hr, cs⟩
theorem node_g9 (n : NodeL) (hl : n.names.length ≤ 10000) (v : Value) (W : World) (hg : RdNm W.heap.size (n, v) W) :
    Calls Try.prog 26 #[nval n v] W fun e w' => ∃ v', e = .returned (nval n v') ∧ RdNm w'.heap.size (n, v') w' ∧ Below W.heap.size W w' :=
  (node_any n v W hg hl).mono fun _ _ ⟨v', h1, h2, h3⟩ => ⟨v', h1, Rd.own h2 (Nat.le_refl _), h3⟩
theorem alike_g9 (n : NodeL) (hl : n.names.length ≤ 10000) (v v' : Value) (W : World) (hg : RdNm W.heap.size (n, v) W) (hg' : RdNm W.heap.size (n, v') W) :
    Calls Try.prog 33 #[nval n v, nval n v'] W fun e w' => e = .returned (.bool true) ∧ Below W.heap.size W w' := by
  have := alike_any n n v v' W hg hg' hl hl
  simpa using this
set_option maxRecDepth 100000 in
set_option maxHeartbeats 4000000 in
theorem others_any (la lb : List NodeL) (m1 r1 m2 r2 : Int) (ino : Int) (aoa aob : Option Addr) (capa capb : Nat) (w : World) (ha : GivesN la (.slice aoa la.length capa) w) (hb : GivesN lb (.slice aob lb.length capb) w)
    (hlen : la.length = lb.length) (hla : la.length ≤ 100000) (hnb : ∀ n ∈ lb, n.names.length ≤ 10000) (heq : ∀ k : Nat, (k : Int) ≠ ino → la[k]? = lb[k]?) :
    Calls Try.prog 22 #[.agg #[.slice aoa la.length capa, .int .i64 m1, .int .i64 r1], .agg #[.slice aob lb.length capb, .int .i64 m2, .int .i64 r2], .int .i64 ino] w fun e w' => e = .returned (.bool true) ∧ Below w.heap.size w w' := by
  have S0 := Lib.hid (Sn.two ha hb)
  have HE := Lib.hid heq
  have HNB := Lib.hid hnb
  have HL := Lib.hid hlen
  have i1 : ((la.length : Int) != (lb.length : Int)) = false := by rw [hlen]; simp
  have i2 : (la.length != lb.length) = false := by rw [hlen]; simp
  clear ha hb heq hnb hlen
  go_enter Try.func22, Try.ntmps22
  go_upto_region 1 with (fail)
  refine code_fresh2 ?_
  intro W1 hb hA0 hA1 hs
  have S1 := Lib.hid (S0.out.new2 hb hA0 hA1)
  clear hb hA0 hA1 hs
  obtain ⟨a0, -, -⟩ := cells3 (S1.out.at 0 rfl)
  obtain ⟨b0, -, -⟩ := cells3 (S1.out.at 1 rfl)
  go_wp2_with fail
  clear a0 b0
  clear i1 i2
  go_loopw [7] (fun i' wr => ∃ k : Nat, i' = .int .i64 k ∧ k ≤ la.length ∧ Below W1.heap.size W1 wr) (fun i' _ => la.length - (intOf i').toNat)
  case atStart => exact ⟨0, rfl, Nat.zero_le _, Below.refl _ _⟩
  case round =>
    obtain ⟨k, rfl, hk, hBr⟩ := hrel
    have SR := Lib.hid (S1.out.call hBr)
    obtain ⟨a0, -, -⟩ := cells3 (SR.out.at 0 rfl)
    obtain ⟨b0, -, -⟩ := cells3 (SR.out.at 1 rfl)
    by_cases hlt : k < la.length
    · have hI : decide (k < la.length) = true := by simpa using hlt
      have k0 : (0 : Int) ≤ (k : Int) := by omega
      have k1 : (k : Int) < (la.length : Int) := by omega
      have k2 : (k : Int) < (lb.length : Int) := by have := HL.out; omega
      by_cases hki : (k : Int) = ino
      · subst hki
        have bd : Below wr.heap.size wr wr.drew := (Below.refl _ _).drew
        go_upto_region 6 with (fail)
        clear a0 b0
        refine wp_region_held_drew (S := fun W => True) (by kernel_rfl) trivial (fun hHeld => ?_)
        have S2 := Lib.hid (SR.out.call (Below.refl wr.heap.size wr).drew)
        generalize wr.drew = W2 at *
        refine wpAnyH_take (i := 0) (v := ?v1) rfl (by kernel_rfl) (by kernel_rfl) (by kernel_rfl) (fun _ _ _ h => h) (Or.inl ⟨by rfl, ?hy1⟩) hHeld ?rest1
        case hy1 => (intro w hSw; (try dsimp only at hSw); (try go_split_ands); go_simp; first | done | with_reducible rfl)
        (try simp only [List.getElem_toArray]); (try simp only [List.getElem_cons_succ]); (try simp only [List.getElem_cons_zero]); (try simp only [Act.put]); (try simp only [List.setIfInBounds_toArray]); (try simp only [List.set_cons_succ]); (try simp only [List.set_cons_zero])
        refine wpAnyH_take (i := 1) (v := ?v2) rfl (by kernel_rfl) (by kernel_rfl) (by kernel_rfl) (fun _ _ _ h => h) (Or.inl ⟨by rfl, ?hy2⟩) hHeld ?rest2
        case hy2 => (intro w hSw; (try dsimp only at hSw); (try go_split_ands); go_simp; first | done | with_reducible rfl)
        (try simp only [List.getElem_toArray]); (try simp only [List.getElem_cons_succ]); (try simp only [List.getElem_cons_zero]); (try simp only [Act.put]); (try simp only [List.setIfInBounds_toArray]); (try simp only [List.set_cons_succ]); (try simp only [List.set_cons_zero])
        refine wpAnyH_take (i := 2) (v := ?v3) rfl (by kernel_rfl) (by kernel_rfl) (by kernel_rfl) (fun _ _ _ h => h) (Or.inl ⟨by rfl, ?hy3⟩) hHeld ?rest3
        case hy3 => (intro w hSw; (try dsimp only at hSw); (try go_split_ands); go_simp; first | done | with_reducible rfl)
        (try simp only [List.getElem_toArray]); (try simp only [List.getElem_cons_succ]); (try simp only [List.getElem_cons_zero]); (try simp only [Act.put]); (try simp only [List.setIfInBounds_toArray]); (try simp only [List.set_cons_succ]); (try simp only [List.set_cons_zero])
        refine wpAnyH_take (i := 3) (v := ?v4) rfl (by kernel_rfl) (by kernel_rfl) (by kernel_rfl) (fun _ _ _ h => h) (Or.inl ⟨by rfl, ?hy4⟩) hHeld ?rest4
        case hy4 => (intro w hSw; (try dsimp only at hSw); (try go_split_ands); go_simp; first | done | with_reducible rfl)
        (try simp only [List.getElem_toArray]); (try simp only [List.getElem_cons_succ]); (try simp only [List.getElem_cons_zero]); (try simp only [Act.put]); (try simp only [List.setIfInBounds_toArray]); (try simp only [List.set_cons_succ]); (try simp only [List.set_cons_zero])
        refine wpAnyH_take (i := 4) (v := undef) rfl (by kernel_rfl) (by kernel_rfl) (by kernel_rfl) (fun _ _ _ h => h) (Or.inr ⟨by rfl, rfl⟩) hHeld ?_
        (try simp only [List.getElem_toArray]); (try simp only [List.getElem_cons_succ]); (try simp only [List.getElem_cons_zero]); (try simp only [Act.put]); (try simp only [List.setIfInBounds_toArray]); (try simp only [List.set_cons_succ]); (try simp only [List.set_cons_zero])
        refine wpAnyH_take (i := 5) (v := undef) rfl (by kernel_rfl) (by kernel_rfl) (by kernel_rfl) (fun _ _ _ h => h) (Or.inr ⟨by rfl, rfl⟩) hHeld ?_
        (try simp only [List.getElem_toArray]); (try simp only [List.getElem_cons_succ]); (try simp only [List.getElem_cons_zero]); (try simp only [Act.put]); (try simp only [List.setIfInBounds_toArray]); (try simp only [List.set_cons_succ]); (try simp only [List.set_cons_zero])
        refine wpAnyH_take (i := 6) (v := undef) rfl (by kernel_rfl) (by kernel_rfl) (by kernel_rfl) (fun _ _ _ h => h) (Or.inr ⟨by rfl, rfl⟩) hHeld ?_
        (try simp only [List.getElem_toArray]); (try simp only [List.getElem_cons_succ]); (try simp only [List.getElem_cons_zero]); (try simp only [Act.put]); (try simp only [List.setIfInBounds_toArray]); (try simp only [List.set_cons_succ]); (try simp only [List.set_cons_zero])
        refine wpAnyH_take (i := 7) (v := undef) rfl (by kernel_rfl) (by kernel_rfl) (by kernel_rfl) (fun _ _ _ h => h) (Or.inr ⟨by rfl, rfl⟩) hHeld ?_
        (try simp only [List.getElem_toArray]); (try simp only [List.getElem_cons_succ]); (try simp only [List.getElem_cons_zero]); (try simp only [Act.put]); (try simp only [List.setIfInBounds_toArray]); (try simp only [List.set_cons_succ]); (try simp only [List.set_cons_zero])
        refine wpAnyH_take (i := 8) (v := undef) rfl (by kernel_rfl) (by kernel_rfl) (by kernel_rfl) (fun _ _ _ h => h) (Or.inr ⟨by rfl, rfl⟩) hHeld ?_
        (try simp only [List.getElem_toArray]); (try simp only [List.getElem_cons_succ]); (try simp only [List.getElem_cons_zero]); (try simp only [Act.put]); (try simp only [List.setIfInBounds_toArray]); (try simp only [List.set_cons_succ]); (try simp only [List.set_cons_zero])
        refine wpAnyH_take (i := 9) (v := undef) rfl (by kernel_rfl) (by kernel_rfl) (by kernel_rfl) (fun _ _ _ h => h) (Or.inr ⟨by rfl, rfl⟩) hHeld ?_
        (try simp only [List.getElem_toArray]); (try simp only [List.getElem_cons_succ]); (try simp only [List.getElem_cons_zero]); (try simp only [Act.put]); (try simp only [List.setIfInBounds_toArray]); (try simp only [List.set_cons_succ]); (try simp only [List.set_cons_zero])
        refine wpAnyH_take (i := 10) (v := undef) rfl (by kernel_rfl) (by kernel_rfl) (by kernel_rfl) (fun _ _ _ h => h) (Or.inr ⟨by rfl, rfl⟩) hHeld ?_
        (try simp only [List.getElem_toArray]); (try simp only [List.getElem_cons_succ]); (try simp only [List.getElem_cons_zero]); (try simp only [Act.put]); (try simp only [List.setIfInBounds_toArray]); (try simp only [List.set_cons_succ]); (try simp only [List.set_cons_zero])
        refine wpAnyH_take (i := 11) (v := undef) rfl (by kernel_rfl) (by kernel_rfl) (by kernel_rfl) (fun _ _ _ h => h) (Or.inr ⟨by rfl, rfl⟩) hHeld ?_
        (try simp only [List.getElem_toArray]); (try simp only [List.getElem_cons_succ]); (try simp only [List.getElem_cons_zero]); (try simp only [Act.put]); (try simp only [List.setIfInBounds_toArray]); (try simp only [List.set_cons_succ]); (try simp only [List.set_cons_zero])
        refine wpAnyH_take (i := 12) (v := undef) rfl (by kernel_rfl) (by kernel_rfl) (by kernel_rfl) (fun _ _ _ h => h) (Or.inr ⟨by rfl, rfl⟩) hHeld ?_
        (try simp only [List.getElem_toArray]); (try simp only [List.getElem_cons_succ]); (try simp only [List.getElem_cons_zero]); (try simp only [Act.put]); (try simp only [List.setIfInBounds_toArray]); (try simp only [List.set_cons_succ]); (try simp only [List.set_cons_zero])
        refine wpAnyH_take (i := 13) (v := undef) rfl (by kernel_rfl) (by kernel_rfl) (by kernel_rfl) (fun _ _ _ h => h) (Or.inr ⟨by rfl, rfl⟩) hHeld ?_
        (try simp only [List.getElem_toArray]); (try simp only [List.getElem_cons_succ]); (try simp only [List.getElem_cons_zero]); (try simp only [Act.put]); (try simp only [List.setIfInBounds_toArray]); (try simp only [List.set_cons_succ]); (try simp only [List.set_cons_zero])
        refine wpAnyH_take (i := 14) (v := undef) rfl (by kernel_rfl) (by kernel_rfl) (by kernel_rfl) (fun _ _ _ h => h) (Or.inr ⟨by rfl, rfl⟩) hHeld ?_
        (try simp only [List.getElem_toArray]); (try simp only [List.getElem_cons_succ]); (try simp only [List.getElem_cons_zero]); (try simp only [Act.put]); (try simp only [List.setIfInBounds_toArray]); (try simp only [List.set_cons_succ]); (try simp only [List.set_cons_zero])
        refine wpAnyH_take (i := 15) (v := undef) rfl (by kernel_rfl) (by kernel_rfl) (by kernel_rfl) (fun _ _ _ h => h) (Or.inr ⟨by rfl, rfl⟩) hHeld ?_
        (try simp only [List.getElem_toArray]); (try simp only [List.getElem_cons_succ]); (try simp only [List.getElem_cons_zero]); (try simp only [Act.put]); (try simp only [List.setIfInBounds_toArray]); (try simp only [List.set_cons_succ]); (try simp only [List.set_cons_zero])
        refine wpAnyH_take (i := 16) (v := undef) rfl (by kernel_rfl) (by kernel_rfl) (by kernel_rfl) (fun _ _ _ h => h) (Or.inr ⟨by rfl, rfl⟩) hHeld ?_
        (try simp only [List.getElem_toArray]); (try simp only [List.getElem_cons_succ]); (try simp only [List.getElem_cons_zero]); (try simp only [Act.put]); (try simp only [List.setIfInBounds_toArray]); (try simp only [List.set_cons_succ]); (try simp only [List.set_cons_zero])
        refine wpAnyH_take (i := 17) (v := undef) rfl (by kernel_rfl) (by kernel_rfl) (by kernel_rfl) (fun _ _ _ h => h) (Or.inr ⟨by rfl, rfl⟩) hHeld ?_
        (try simp only [List.getElem_toArray]); (try simp only [List.getElem_cons_succ]); (try simp only [List.getElem_cons_zero]); (try simp only [Act.put]); (try simp only [List.setIfInBounds_toArray]); (try simp only [List.set_cons_succ]); (try simp only [List.set_cons_zero])
        refine wpAnyH_take (i := 18) (v := ?v5) rfl (by kernel_rfl) (by kernel_rfl) (by kernel_rfl) (fun _ _ _ h => h) (Or.inl ⟨by rfl, ?hy5⟩) hHeld ?rest5
        case hy5 => (intro w hSw; (try dsimp only at hSw); (try go_split_ands); go_simp; first | done | with_reducible rfl)
        (try simp only [List.getElem_toArray]); (try simp only [List.getElem_cons_succ]); (try simp only [List.getElem_cons_zero]); (try simp only [Act.put]); (try simp only [List.setIfInBounds_toArray]); (try simp only [List.set_cons_succ]); (try simp only [List.set_cons_zero])
        refine wpAnyH_done (by kernel_rfl) ?_ _
        go_wp2_with fail
        go_roundw
        case rel => exact ⟨k + 1, by go_num, hlt, ret_tr hBr bd⟩
        case measure => simp [intOf]; omega
      · have e1 : ((k : Int) != ino) = true := by simpa using hki
        have e2 : decide ((k : Int) = ino) = false := decide_eq_false hki
        obtain ⟨n, hn⟩ : ∃ n, la[k]? = some n := ⟨_, List.getElem?_eq_getElem hlt⟩
        have hn2 : lb[k]? = some n := by rw [← HE.out k hki]; exact hn
        have hnx : n.names.length ≤ 10000 := HNB.out n (List.mem_of_getElem? hn2)
        obtain ⟨ba, oa, aon, cpn, haa, hba, hra, c0, c1, c2, c3, c4, c5, c6, c7⟩ := node_in (SR.out.g 0 rfl) k n hn
        subst haa
        obtain ⟨bb, ob, aoy, cpy, hab, hbb, hry, y0, y1, y2, y3, y4, y5, y6, y7⟩ := node_in (SR.out.g 1 rfl) k n hn2
        subst hab
        clear hn hn2 hki
        have HSS : Hid (∀ W, Below wr.heap.size wr W → W.cell? ⟨w.heap.size, 0, none⟩ = some (.slice (some ⟨ba, oa, none⟩) la.length capa) ∧ W.cell? ⟨w.heap.size + 1, 0, none⟩ = some (.slice (some ⟨bb, ob, none⟩) lb.length capb) ∧ W.cell? ⟨ba, oa + k * 8, none⟩ = some (.int .i64 n.kind) ∧ W.cell? ⟨ba, oa + k * 8 + 1, none⟩ = some (.int .i64 n.mode) ∧ W.cell? ⟨ba, oa + k * 8 + 2, none⟩ = some (.int .i64 n.owner) ∧ W.cell? ⟨ba, oa + k * 8 + 3, none⟩ = some (.int .i64 n.links) ∧ W.cell? ⟨ba, oa + k * 8 + 4, none⟩ = some (.int .i64 n.opn) ∧ W.cell? ⟨ba, oa + k * 8 + 5, none⟩ = some (.int .i64 n.up) ∧ W.cell? ⟨ba, oa + k * 8 + 6, none⟩ = some (.string (bs n.data)) ∧ W.cell? ⟨ba, oa + k * 8 + 7, none⟩ = some (.slice aon n.names.length cpn) ∧ W.cell? ⟨bb, ob + k * 8, none⟩ = some (.int .i64 n.kind) ∧ W.cell? ⟨bb, ob + k * 8 + 1, none⟩ = some (.int .i64 n.mode) ∧ W.cell? ⟨bb, ob + k * 8 + 2, none⟩ = some (.int .i64 n.owner) ∧ W.cell? ⟨bb, ob + k * 8 + 3, none⟩ = some (.int .i64 n.links) ∧ W.cell? ⟨bb, ob + k * 8 + 4, none⟩ = some (.int .i64 n.opn) ∧ W.cell? ⟨bb, ob + k * 8 + 5, none⟩ = some (.int .i64 n.up) ∧ W.cell? ⟨bb, ob + k * 8 + 6, none⟩ = some (.string (bs n.data)) ∧ W.cell? ⟨bb, ob + k * 8 + 7, none⟩ = some (.slice aoy n.names.length cpy)) := Lib.hid fun W hw => ⟨(cells3 (SR.out.at' hw 0 rfl)).1, (cells3 (SR.out.at' hw 1 rfl)).1, (hw.cell hba).trans c0, (hw.cell hba).trans c1, (hw.cell hba).trans c2, (hw.cell hba).trans c3, (hw.cell hba).trans c4, (hw.cell hba).trans c5, (hw.cell hba).trans c6, (hw.cell hba).trans c7, (hw.cell hbb).trans y0, (hw.cell hbb).trans y1, (hw.cell hbb).trans y2, (hw.cell hbb).trans y3, (hw.cell hbb).trans y4, (hw.cell hbb).trans y5, (hw.cell hbb).trans y6, (hw.cell hbb).trans y7⟩
        have HNx := Lib.hid fun W (hw : Below wr.heap.size wr W) => node_g9 n hnx (.slice aon n.names.length cpn) W (rdnm_keep hra hw)
        have HNy := Lib.hid fun W (hw : Below wr.heap.size wr W) => node_g9 n hnx (.slice aoy n.names.length cpy) W (rdnm_keep hry hw)
        have HAl := Lib.hid (alike_g9 n hnx)
        have bw : Below wr.heap.size wr wr := Below.refl _ _
        have bd : Below wr.heap.size wr wr.drew := (Below.refl _ _).drew
        clear hra hry c0 c1 c2 c3 c4 c5 c6 c7 y0 y1 y2 y3 y4 y5 y6 y7
        go_upto_region 6 with (fail)
        go_region_held3 (fun W => W.cell? ⟨w.heap.size, 0, none⟩ = some (.slice (some ⟨ba, oa, none⟩) la.length capa) ∧ W.cell? ⟨w.heap.size + 1, 0, none⟩ = some (.slice (some ⟨bb, ob, none⟩) lb.length capb) ∧ W.cell? ⟨ba, oa + k * 8, none⟩ = some (.int .i64 n.kind) ∧ W.cell? ⟨ba, oa + k * 8 + 1, none⟩ = some (.int .i64 n.mode) ∧ W.cell? ⟨ba, oa + k * 8 + 2, none⟩ = some (.int .i64 n.owner) ∧ W.cell? ⟨ba, oa + k * 8 + 3, none⟩ = some (.int .i64 n.links) ∧ W.cell? ⟨ba, oa + k * 8 + 4, none⟩ = some (.int .i64 n.opn) ∧ W.cell? ⟨ba, oa + k * 8 + 5, none⟩ = some (.int .i64 n.up) ∧ W.cell? ⟨ba, oa + k * 8 + 6, none⟩ = some (.string (bs n.data)) ∧ W.cell? ⟨ba, oa + k * 8 + 7, none⟩ = some (.slice aon n.names.length cpn) ∧ W.cell? ⟨bb, ob + k * 8, none⟩ = some (.int .i64 n.kind) ∧ W.cell? ⟨bb, ob + k * 8 + 1, none⟩ = some (.int .i64 n.mode) ∧ W.cell? ⟨bb, ob + k * 8 + 2, none⟩ = some (.int .i64 n.owner) ∧ W.cell? ⟨bb, ob + k * 8 + 3, none⟩ = some (.int .i64 n.links) ∧ W.cell? ⟨bb, ob + k * 8 + 4, none⟩ = some (.int .i64 n.opn) ∧ W.cell? ⟨bb, ob + k * 8 + 5, none⟩ = some (.int .i64 n.up) ∧ W.cell? ⟨bb, ob + k * 8 + 6, none⟩ = some (.string (bs n.data)) ∧ W.cell? ⟨bb, ob + k * 8 + 7, none⟩ = some (.slice aoy n.names.length cpy))
          (first
            | exact HSS.out _ (by assumption)
            | (go_keep; done))
          (first
            | (go_at_call 26; (with_reducible refine (HNx.out _ (by assumption)).mono ?_); rintro e WX ⟨vX, rfl, gX, hbX⟩; have bX := ret_tr (w := wr) (by assumption) hbX; (try replace gY := rdnm_keep gY hbX))
            | (go_at_call 26; (with_reducible refine (HNy.out _ (by assumption)).mono ?_); rintro e WX ⟨vY, rfl, gY, hbX⟩; have bX := ret_tr (w := wr) (by assumption) hbX; (try replace gX := rdnm_keep gX hbX))
            | (go_at_call 33; (with_reducible refine (HAl.out vX vY _ gX gY).mono ?_); rintro e WX ⟨rfl, hbX⟩; have bX := ret_tr (w := wr) (by assumption) hbX)
            | fail)
        all_goals (
          go_wp2_with fail
          go_roundw
          case rel => exact ⟨k + 1, by go_num, hlt, ret_tr hBr (by assumption)⟩
          case measure => simp [intOf]; omega)
    · have hI2 : decide (k < la.length) = false := by simp; omega
      clear hlt
      go_wp2_with fail
      go_ret
      exact ⟨rfl, SR.out.bel⟩
end Go.Proofs.Ythpcldmhamjnbaa
