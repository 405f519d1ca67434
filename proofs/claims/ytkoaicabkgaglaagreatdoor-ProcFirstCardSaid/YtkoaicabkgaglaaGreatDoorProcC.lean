/-
  The program's Spawn: one process more, or none.
-/
import Derived.Test.YtkoaicabkgaglaaGreatDoorProcB
namespace Go.Proofs.YtkoaicabkgaglaaGreatDoor
open Go.RowKit Go.Shelf
attribute [local go_sem ↓] Go.wp_at_zero Go.wp_at_succ

/-- What Spawn tells: a kernel, a number, an error. -/
def SpawnIs (X : Nat → Prop) (k : KernL) (n er : Int) (e : Ending) (w w' : World) : Prop := ∃ ao co ad cd af cf ap cp, e = .returned (.tuple #[.agg #[.slice ao k.l.length co, .int .i64 k.most, .int .i64 k.room, .slice ad k.t.ds.length cd, .slice af k.t.fs.length cf, .slice ap k.ps.length cp], .int .i64 n, .int .i64 er]) ∧ DiskX k.l (.slice ao k.l.length co) X w' ∧ TabX k.t (.slice ad k.t.ds.length cd) (.slice af k.t.fs.length cf) X w' ∧ PsX k.ps (.slice ap k.ps.length cp) X w' ∧ Below w.heap.size w w'
theorem spawn_ret (w : World) : Hid (∀ (W : World) (cs : Array Value) (fr), W.heap[w.heap.size + 1]? = some (.cells cs 31 fr) → cs.size = 6 → ∀ tmps : Array Value, tmps.getD 8 undef = .pointer (some ⟨w.heap.size + 1, 0, none⟩) → (results Tryz.f7 tmps).run Tryz.prog W = .ok (.tuple #[.agg cs, tmps.getD 9 undef, tmps.getD 10 undef]) W) := Lib.hid fun W cs fr h hs tmps ht =>
  results_ctt (p := 8) (u := 9) (v := 10) (ty := 31) rfl tmps W (w.heap.size + 1) _ cs fr _ ht h Tryz.underlying31 rfl (by rw [hs]; kernel_rfl)
set_option maxRecDepth 100000 in
set_option maxHeartbeats 4000000 in
theorem pspawn_no (X : Nat → Prop) (k : KernL) (ao ad af ap : Option Addr) (co cd cf cp : Nat) (who um i : Int) (w : World) (hX : Old X w) (hD : DiskX k.l (.slice ao k.l.length co) X w) (hT : TabX k.t (.slice ad k.t.ds.length cd) (.slice af k.t.fs.length cf) X w) (hP : PsX k.ps (.slice ap k.ps.length cp) X w) (h8 : 8 ≤ k.ps.length) :
    Calls Tryz.prog 7 #[.agg #[.slice ao k.l.length co, .int .i64 k.most, .int .i64 k.room, .slice ad k.t.ds.length cd, .slice af k.t.fs.length cf, .slice ap k.ps.length cp], .int .i64 who, .int .i64 um, .int .i64 i] w fun e w' => SpawnIs X k 0 13 e w w' := by
  have S0 := Lib.hid (Sf.start (G := [DiskX k.l (.slice ao k.l.length co), TabX k.t (.slice ad k.t.ds.length cd) (.slice af k.t.fs.length cf), PsX k.ps (.slice ap k.ps.length cp)]) hX (th3 (DiskX.firm _ _) hD (TabX.firm _ _ _) hT (PsX.firm _ _) hP))
  have HRET := spawn_ret w
  have i8 : decide ((8 : Int) ≤ (k.ps.length : Int)) = true := decide_eq_true (by omega)
  have n8 : decide (8 ≤ k.ps.length) = true := decide_eq_true h8
  clear hX hD hT hP
  go_enter Tryz.func7, Tryz.ntmps7
  go_upto_region 1 with (fail)
  refine code_fresh2 ?_
  intro W1 hb hA0 hA1 hs
  have S1 := Lib.hid (S0.out.new2 hb hA0 hA1)
  clear hb hA0 hA1 hs
  obtain ⟨-, -, -, -, -, k5⟩ := cells6 (S1.out.at 0 rfl)
  go_upto_region 2 with (fail)
  have h_k := (S1.out.at 0 rfl)
  have h_r := (S1.out.at 1 rfl)
  go_wp2_with (first | (refine wpList_load_row rfl 31 _ rfl _ rfl 31 _ (0, 0) _ h_k Tryz.underlying31 rfl (by kernel_rfl) ?_) | (refine wpList_store_row rfl 31 _ _ rfl _ rfl rfl h_r rfl (by kernel_rfl) rfl ?_; intro W2 hb hg hs hn; have S2 := Lib.hid (S1.out.set 1 rfl hb hg hs hn); clear hb hg hs hn))
  refine bodyPost_ret (HRET.out _ _ _ (S2.out.at 1 rfl) rfl _ rfl) rfl ?_
  exact ⟨ao, co, ad, cd, af, cf, ap, cp, rfl, S2.out.gX 0 rfl, S2.out.gX 1 rfl, S2.out.gX 2 rfl, S2.out.bel⟩
set_option maxRecDepth 100000 in
set_option maxHeartbeats 4000000 in
theorem pspawn_c (X : Nat → Prop) (k : KernL) (ao ad af ap : Option Addr) (co cd cf cp : Nat) (who um I : Int) (i : Nat) (w : World) (hX : Old X w) (hD : DiskX k.l (.slice ao k.l.length co) X w) (hT : TabX k.t (.slice ad k.t.ds.length cd) (.slice af k.t.fs.length cf) X w) (hP : PsX k.ps (.slice ap k.ps.length cp) X w) (hI : I = (i : Int)) (h8 : k.ps.length < 8) (h0 : 0 ≤ um) (h1 : um ≤ 63) (hi : (nd k.l i).kind = 2) (hs : Small k.l) (ho : 0 ≤ (nd k.l i).opn) (ho2 : (nd k.l i).opn ≤ 100000) :
    Calls Tryz.prog 7 #[.agg #[.slice ao k.l.length co, .int .i64 k.most, .int .i64 k.room, .slice ad k.t.ds.length cd, .slice af k.t.fs.length cf, .slice ap k.ps.length cp], .int .i64 who, .int .i64 um, .int .i64 I] w fun e w' => SpawnIs X (comeK k who um I) (k.ps.length : Int) 0 e w w' := by
  subst hI
  have S0 := Lib.hid (Sf.start (G := [DiskX k.l (.slice ao k.l.length co), TabX k.t (.slice ad k.t.ds.length cd) (.slice af k.t.fs.length cf), PsX k.ps (.slice ap k.ps.length cp)]) hX (th3 (DiskX.firm _ _) hD (TabX.firm _ _ _) hT (PsX.firm _ _) hP))
  have HRET := spawn_ret w
  have i8 : decide ((8 : Int) ≤ (k.ps.length : Int)) = false := decide_eq_false (by omega)
  have n8 : decide (8 ≤ k.ps.length) = false := decide_eq_false (by omega)
  have u0 : decide (um < 0) = false := decide_eq_false (by omega)
  have u1 : decide (63 < um) = false := decide_eq_false (by omega)
  have hik : (nd k.l i).kind ≠ 0 := by rw [hi]; decide
  have HG : Hid (gotB k.l (i : Int) = true) := Lib.hid ((got_nd _ _).2 hik)
  have HND : Hid (nodeL k.l (i : Int) = nd k.l i) := Lib.hid (nodeL_nd hik)
  have HK := Lib.hid hi
  have HL : Hid (k.l.length ≤ 10000) := Lib.hid (Nat.le_trans hs.1 (by decide))
  have HNL := Lib.hid (names_small hs)
  have H8 := Lib.hid h8
  have HO : Hid (0 ≤ (nd k.l i).opn ∧ (nd k.l i).opn ≤ 100000) := Lib.hid ⟨ho, ho2⟩
  have HNM : Hid ((nd k.l i).names.length ≤ 10000) := Lib.hid (by
    have hlt := nd_kind hik
    rw [nd_in _ _ hlt]
    exact names_small hs _ (List.getElem_mem hlt))
  clear hX hD hT hP hs hik hi h8 h0 h1 ho ho2
  go_enter Tryz.func7, Tryz.ntmps7
  go_upto_region 1 with (fail)
  refine code_fresh2 ?_
  intro W1 hb hA0 hA1 hs
  have S1 := Lib.hid (S0.out.new2 hb hA0 hA1)
  clear hb hA0 hA1 hs
  obtain ⟨-, -, -, -, -, k5⟩ := cells6 (S1.out.at 0 rfl)
  go_upto_region 5 with (fail)
  clear k5
  have h_d := k_disk (S1.out.at 0 rfl)
  go_wp2_with (first | (refine wpList_load_mid rfl 24 _ rfl _ 0 rfl _ _ h_d Tryz.underlying24 rfl (by kernel_rfl) ?_))
  refine (get_g _ k.l k.most k.room (i : Int) _ W1 S1.out.oldX (S1.out.g 0 rfl) HL.out HNL.out).mono ?_
  rintro e W2 ⟨aon, cpn, rfl, hn, hb⟩
  clear h_d
  have S2 := Lib.hid ((S1.out.call hb).more (NodeTh.firm _ _) hn)
  rw [HND.out] at S2 ⊢
  rw [HG.out]
  obtain ⟨n, hnn⟩ : ∃ n, n = nd k.l i := ⟨_, rfl⟩
  rw [← hnn] at S2 HO HK HND HNM ⊢
  clear hnn hb hn
  go_upto_region 6 with (first | (refine wpList_fresh1 ?_; intro W3 hb hn hs; have S3 := Lib.hid (S2.out.new1 hb hn); have h_n := S3.out.at 2 rfl; clear hb hn hs) | (refine wpList_store_row rfl 64 _ _ rfl _ rfl rfl h_n rfl (by kernel_rfl) rfl ?_; intro W4 hb hg hs hn; have S4 := Lib.hid (S3.out.set 2 rfl hb hg hs hn); clear hb hg hs hn))
  clear h_n
  obtain ⟨bn, hbn⟩ : ∃ bn, bn = W2.heap.size := ⟨_, rfl⟩
  rw [← hbn] at S4 ⊢
  clear hbn
  obtain ⟨n0, -, -, -, n4, -, -, -⟩ := cells8 (S4.out.at 2 rfl)
  rw [HK.out] at n0
  have fn := fun j => Lib.frozen_of_heap (S4.out.at 2 rfl) j
  have w1 : IntKind.i64.wrap (n.opn + 1) = n.opn + 1 := by
    have := HO.out
    exact Go.IntWalk.i64_in _ ⟨by omega, by omega⟩
  go_upto_region 11 with (fail)
  clear n0 n4 fn w1
  refine code_set1 (S4.out.at 2 rfl) ?_
  intro W5 hb hg hs hn
  have S5 := Lib.hid (S4.out.set 2 rfl hb hg hs hn)
  clear hb hg hs hn
  have HCK : Hid (comeK k who um (i : Int) = ⟨setL k.l (i : Int) (opnN n 1), k.most, k.room, k.t, k.ps ++ [newP who um (i : Int)]⟩) := Lib.hid (by unfold comeK; rw [HND.out])
  have h_d := k_disk (S5.out.at 0 rfl)
  have h_n := (S5.out.at 2 rfl)
  go_wp2_with (first | (refine wpList_load_mid rfl 24 _ rfl _ 0 rfl _ _ h_d Tryz.underlying24 rfl (by kernel_rfl) ?_) | (refine wpList_load_row rfl 64 _ rfl _ rfl 64 _ (0, 0) _ h_n Tryz.underlying64 rfl (by kernel_rfl) ?_))
  refine (set_g _ k.l k.most k.room (i : Int) (opnN n 1) _ (.slice aon n.names.length cpn) W5 S5.out.oldX (S5.out.g 0 rfl) HL.out ((S5.out.g 3 rfl : NodeX _ n _ _).same (m := opnN n 1) rfl) HNM.out).mono ?_
  rintro e W6 ⟨ao2, co2, rfl, hg2, hb⟩
  have S6 := Lib.hid ((S5.out.call hb).more (DiskX.firm _ _) hg2)
  clear hb hg2 h_d h_n
  have h_k := (S6.out.at 0 rfl)
  go_upto_region 12 with (first | (refine wpList_store_k3 rfl 24 _ _ rfl _ rfl rfl h_k (by kernel_rfl) rfl rfl rfl ?_; intro W7 hb hg hs hn; have S7 := Lib.hid (S6.out.set 0 rfl hb hg hs hn); clear hb hg hs hn))
  clear h_k
  obtain ⟨-, -, -, -, -, k5⟩ := cells6 (S7.out.at 0 rfl)
  go_wp2_with fail
  clear k5
  refine fresh2 (P := fun W => Calls _ _ _ W _) ?_
  intro W8 hb hA hB hs8
  have S8 := Lib.hid (S7.out.new2 hb hA hB)
  clear hb
  have hcon := concatP_any (W7.heap.size + 1) 0 2 [(.slice ap k.ps.length cp, k.ps), (.slice (some ⟨W7.heap.size, 0, none⟩) 1 1, [newP who um (i : Int)])] W8 (by omega)
    (by
      intro j hj
      have hj2 : j = 0 ∨ j = 1 := by simp at hj; omega
      rcases hj2 with rfl | rfl
      · exact ⟨by rw [Lib.cell_of_heap hB]; rfl, (S8.out.g 2 rfl : PsX _ _ _ _).1⟩
      · exact ⟨by rw [Lib.cell_of_heap hB]; rfl, (ps_one (X := fun _ => False) (x := newP who um (i : Int)) hA (fun q hq => hq.elim)).1⟩)
    (by
      intro x hx
      simp only [List.mem_cons, List.not_mem_nil, or_false] at hx
      rcases hx with rfl | rfl
      · have := H8.out; show k.ps.length ≤ 10001; omega
      · simp)
    (by simp)
  have hall : allP [((Value.slice ap k.ps.length cp, k.ps) : SrcP), (.slice (some ⟨W7.heap.size, 0, none⟩) 1 1, [newP who um (i : Int)])] = k.ps ++ [newP who um (i : Int)] := by simp [allP]
  rw [hall] at hcon
  refine hcon.mono ?_
  clear hcon hall hA hB hs8
  rintro e W9 ⟨v9, rfl, ho9, hb9⟩
  obtain ⟨ap9, cp9, rfl⟩ := own_form ho9
  have S9 := Lib.hid ((S8.out.call hb9).more (PsX.firm (k.ps ++ [newP who um (i : Int)]) _) (RdX.own ho9 S8.out.oldX))
  clear ho9 hb9
  obtain ⟨-, -, -, -, -, k5⟩ := cells6 (S9.out.at 0 rfl)
  have fk := fun j => Lib.frozen_of_heap (S9.out.at 0 rfl) j
  go_upto_region 14 with (fail)
  clear k5 fk
  refine code_set1 (S9.out.at 0 rfl) ?_
  intro W10 hb hg hs hn
  have S10 := Lib.hid (S9.out.set 0 rfl hb hg hs hn)
  clear hb hg hs hn
  have h_k := (S10.out.at 0 rfl)
  have h_r := (S10.out.at 1 rfl)
  go_wp2_with (first | (refine wpList_load_row rfl 31 _ rfl _ rfl 31 _ (0, 0) _ h_k Tryz.underlying31 rfl (by kernel_rfl) ?_) | (refine wpList_store_row rfl 31 _ _ rfl _ rfl rfl h_r rfl (by kernel_rfl) rfl ?_; intro W11 hb hg hs hn; have S11 := Lib.hid (S10.out.set 1 rfl hb hg hs hn); clear hb hg hs hn))
  refine bodyPost_ret (HRET.out _ _ _ (S11.out.at 1 rfl) rfl _ rfl) rfl ?_
  rw [HCK.out]
  have hlen : (k.ps ++ [newP who um (i : Int)]).length = k.ps.length + 1 := by rw [List.length_append]; rfl
  exact ⟨ao2, co2, ad, cd, af, cf, ap9, cp9, (by
    show _ = Ending.returned (.tuple #[.agg #[.slice ao2 (setL k.l (i : Int) (opnN n 1)).length co2, .int .i64 k.most, .int .i64 k.room, .slice ad k.t.ds.length cd, .slice af k.t.fs.length cf, .slice ap9 (k.ps ++ [newP who um (i : Int)]).length cp9], .int .i64 k.ps.length, .int .i64 0])
    rw [hlen]
    rfl), S11.out.gX 4 rfl, S11.out.gX 1 rfl, S11.out.gX 5 rfl, S11.out.bel⟩
end Go.Proofs.YtkoaicabkgaglaaGreatDoor
