/-
  The walk of OptionBack.
-/
import Derived.Test.YtjgadmodhkdllaaDoorLaw3E
namespace Go.Proofs.YtjgadmodhkdllaaDoor
open Go.RowKit Go.Shelf

theorem ownsRow_grown {W W' : World} {base : Nat} {e : TypeId} {size n : Nat} {v : Value} {xs : List Value} {row : Option Nat} (h : W.ownsRow base e size v n xs) (hg : W.grownBy W' row) (hne : ∀ g, v.ownBlock = some g → row ≠ some g) : W'.ownsRow base e size v n xs := by
  refine ⟨h.1, h.2.imp id ?_⟩
  rintro ⟨g, cap, cur, rfl, h2, h3, h4⟩
  exact ⟨g, cap, cur, rfl, h2, (hg.block g (Array.getElem?_eq_some_iff.1 h3).1 (fun e => hne g rfl e.symm)).trans h3, h4⟩
theorem own_ne {W : World} {b1 b2 : Nat} {e1 e2 : TypeId} {s1 s2 n1 n2 : Nat} {v1 v2 : Value} {x1 x2 : List Value} (h : W.ownsRow b1 e1 s1 v1 n1 x1) (h' : W.ownsRow b2 e2 s2 v2 n2 x2) (hne : e1 ≠ e2) : ∀ g, v1.ownBlock = some g → v2.ownBlock ≠ some g := by
  intro g hg hg'
  rcases h.2 with ⟨rfl, _⟩ | ⟨g1, cap1, cur1, rfl, _, hh1, _⟩
  · simp [Value.ownBlock] at hg
  rcases h'.2 with ⟨rfl, _⟩ | ⟨g2, cap2, cur2, rfl, _, hh2, _⟩
  · simp [Value.ownBlock] at hg'
  obtain rfl : g1 = g := by simpa [Value.ownBlock] using hg
  obtain rfl : g2 = g1 := by simpa [Value.ownBlock] using hg'
  rw [hh1] at hh2
  injection hh2 with hh2
  injection hh2 with _ ht
  exact hne ht
theorem own_not {W : World} {base b : Nat} {e ty : TypeId} {size n : Nat} {v : Value} {xs : List Value} {cs : Array Value} {fr : Nat × Nat} (h : W.ownsRow base e size v n xs) (hb : W.heap[b]? = some (.cells cs ty fr)) (hne : e ≠ ty) : v.ownBlock ≠ some b := by
  intro hg
  rcases h.2 with ⟨rfl, _⟩ | ⟨g1, cap1, cur1, rfl, _, hh1, _⟩
  · simp [Value.ownBlock] at hg
  obtain rfl : g1 = b := by simpa [Value.ownBlock] using hg
  rw [hh1] at hb
  injection hb with hb
  injection hb with _ ht
  exact hne ht
theorem heap_keep {W W' : World} {row : Option Nat} {b : Nat} {o : Obj} (h : W.heap[b]? = some o) (hg : W.grownBy W' row) (hne : row ≠ some b) : W'.heap[b]? = some o :=
  (hg.block b (Array.getElem?_eq_some_iff.1 h).1 (fun e => hne e.symm)).trans h
theorem heap_al {W : World} {b : Nat} {o : Obj} (h : W.heap[b]? = some o) (x : Obj) : (W.alloc x).heap[b]? = some o :=
  (below_al W x).block b (Array.getElem?_eq_some_iff.1 h).1 |>.trans h
theorem heap_setal (W : World) (p : Addr) (u : Value) (o : Obj) : ((W.setCell p u).alloc o).heap[W.heap.size]? = some o := by
  have := heap_alloc_new (W.setCell p u) o
  simpa using this
theorem heap_three (W : World) (A B C : Obj) : (((W.alloc A).alloc B).alloc C).heap[W.heap.size + 2]? = some C := by
  have := heap_alloc_new ((W.alloc A).alloc B) C
  simpa using this
/-- The texts and the flags that have been told. -/
structure Told (B : Nat) (q t : Value) (A : List Str) (F : List FlagL) (W : World) : Prop where
  q : W.ownsRow B 9 1 q A.length (strs A)
  t : W.ownsRow B 43 2 t F.length (flags F)
theorem Told.ne {B : Nat} {q t : Value} {A : List Str} {F : List FlagL} {W : World} (h : Told B q t A F W) : (∀ g, q.ownBlock = some g → t.ownBlock ≠ some g) ∧ (∀ g, t.ownBlock = some g → q.ownBlock ≠ some g) :=
  ⟨own_ne h.q h.t (by decide), own_ne h.t h.q (by decide)⟩
theorem Told.alloc {B : Nat} {q t : Value} {A : List Str} {F : List FlagL} {W : World} (h : Told B q t A F W) (o : Obj) : Told B q t A F (W.alloc o) := ⟨h.q.alloc o, h.t.alloc o⟩

set_option maxRecDepth 100000 in
set_option maxHeartbeats 4000000 in
theorem back_small (vw vv vo : Value) (ws : List UInt8) (vs os : List Str) (w : World) (a0 a1 : Addr) (m : Int) (hg : Gl w.heap.size a0 a1 m w) (hw : Rd w.heap.size 1 vw ws.length (bytes ws) w) (hv : Rd w.heap.size 1 vv vs.length (strs vs) w) (ho : Rd w.heap.size 1 vo os.length (strs os) w)
    (hn : ws.length ≤ 20) (hvn : ws.length ≤ vs.length) (hlv : longB vs = false) (hlo : longB os = false) :
    Calls Tryd.prog 5 #[vw, vv, vo] w fun e W' => e = .returned (.bool true) ∧ Below w.heap.size w W' := by
  have h0 : decide ((20 : Int) < (ws.length : Int)) = false := by simp; omega
  have h1 : decide (vs.length < ws.length) = false := by simp; omega
  obtain ⟨hv5, hva⟩ := long_no hlv
  obtain ⟨ho5, hoa⟩ := long_no hlo
  obtain ⟨j0, hj, hy0, hy1, hy2⟩ := info_parts infoStr
  obtain ⟨i0, hi, hz0, hz1, hz2⟩ := info_parts infoRFlag
  obtain ⟨aow, capw, rfl, _, _⟩ := hw.form
  obtain ⟨aov, capv, rfl, _, _⟩ := hv.form
  obtain ⟨aoo, capo, rfl, _, _⟩ := ho.form
  have HG := Lib.hid hg
  have HW := Lib.hid hw
  have HV := Lib.hid hv
  have HO := Lib.hid ho
  have HLV := Lib.hid hlv
  have HLO := Lib.hid hlo
  have HVA : Hid (∀ a ∈ vs, a.length ≤ 65000) := Lib.hid (fun a h => by have := hva a h; omega)
  have HOA : Hid (∀ a ∈ os, a.length ≤ 65000) := Lib.hid (fun a h => by have := hoa a h; omega)
  clear hg hw hv ho hlv hlo hva hoa
  go_enter Tryd.func5, Tryd.ntmps5
  go_wp2_with fail
  refine (long_any _ _ vs _ HV.out).mono ?_
  rintro e w0 ⟨rfl, rfl⟩
  rw [HLV.out]
  go_wp2_with fail
  refine (long_any _ _ os _ HO.out).mono ?_
  rintro e w0 ⟨rfl, rfl⟩
  rw [HLO.out]
  go_wp2_with fail
  refine (shown_any _ a0 a1 m _ HG.out (Nat.le_refl _)).mono ?_
  rintro e w1 ⟨rfl, hb1⟩
  have s1 := hb1.size
  have HW1 := Lib.hid (HW.out.below hb1)
  have HV1 := Lib.hid (HV.out.below hb1)
  have HO1 := Lib.hid (HO.out.below hb1)
  clear h0 h1
  go_wp2_with fail
  go_loopw [7, 8, 9] (fun q t i wr => ∃ k : Nat, i = .int .i64 k ∧ k ≤ ws.length ∧ Hid (Told w1.heap.size q t (toldB ws vs k) (wantB ws vs k) wr) ∧ Below w1.heap.size w1 wr) (fun _ _ i _ => ws.length - (intOf i).toNat)
  case atStart =>
    refine ⟨0, rfl, Nat.zero_le _, Lib.hid ⟨?_, ?_⟩, ((Below.refl _ _).alloc (Nat.le_refl _) _).alloc (by simp) _⟩
    · exact (World.ownsRow_lit (size := 1) w1 #[] 0 (Nat.le_refl _) (by decide) rfl).alloc _
    · have := World.ownsRow_lit (base := w1.heap.size) (e := 43) (size := 2) (w1.alloc (.cells #[] 9)) #[] 0 (by simp) (by decide) rfl
      rw [World.size_alloc] at this
      exact this
  case round =>
    obtain ⟨k, rfl, hk, hT, hB⟩ := hrel
    have sB := hB.size
    by_cases hlt : k < ws.length
    · have hlv : k < vs.length := by omega
      obtain ⟨b, off, cap', e, _, _, hb, hlen, hc⟩ := HW1.out.at (by omega)
      injection e with e1 _ e2
      subst e1
      subst e2
      have hcell := (hB.cell (p := ⟨b, off + k, none⟩) (by show b < _; omega)).trans (hc _ _ (bytes_at ws k hlt))
      obtain ⟨u, hu⟩ : ∃ u, u = ws[k] := ⟨_, rfl⟩
      rw [← hu] at hcell
      obtain ⟨d, hd⟩ : ∃ d : Nat, d = u.toNat := ⟨_, rfl⟩
      have hd0 : (0 : Int) ≤ (d : Int) := by omega
      have hd1 : (d : Int) ≤ 255 := by have := u.toNat_lt; omega
      rw [← hd] at hcell
      have hix := fun w => index_const [112, 114, 109] (d % 3) ((d : Int) % 3) (by omega) (by show d % 3 < 3; exact Nat.mod_lt _ (by decide)) w
      obtain ⟨c, hcd⟩ : ∃ c, c = letterB u := ⟨_, rfl⟩
      have hcl : ([112, 114, 109] : Str).getD (d % 3) 0 = c := by rw [hcd, hd]; rfl
      rw [hcl] at hix
      have hcv : (convert 41 9 (.slice (some ⟨(wr.alloc (.cells #[.int .u8 c.toNat, .string { data := #[] }] 43)).heap.size, 0, none⟩) 1 1)).run Tryd.prog ((wr.alloc (.cells #[.int .u8 c.toNat, .string { data := #[] }] 43)).alloc (.cells #[.int .u8 c.toNat] 5)) = .ok (.string ⟨#[c]⟩) ((wr.alloc (.cells #[.int .u8 c.toNat, .string { data := #[] }] 43)).alloc (.cells #[.int .u8 c.toNat] 5)) :=
        bytes_back Tryd.underlying41 Tryd.underlying5 Tryd.underlying9 _ 5 [c]
      rw [World.size_alloc] at hcv
      obtain ⟨A, hA⟩ : ∃ A, A = toldB ws vs k := ⟨_, rfl⟩
      obtain ⟨F, hF⟩ : ∃ F, F = wantB ws vs k := ⟨_, rfl⟩
      rw [← hA, ← hF] at hT
      have hAl : A.length ≤ 40 := by rw [hA]; have := toldB_len ws vs k; omega
      have hFl : F.length = k := by rw [hF, wantB_len]
      have hFk : F.length ≤ 20 := by omega
      have hwk : ws.getD k 0 = u := by rw [hu, List.getD_eq_getElem?_getD, List.getElem?_eq_getElem hlt]; rfl
      have hvk : vs.getD k [] = vs[k] := by rw [List.getD_eq_getElem?_getD, List.getElem?_eq_getElem hlv]; rfl
      have HA : Hid (toldB ws vs (k + 1) = A ++ tellB u vs[k]) := Lib.hid (by rw [toldB_succ, ← hA, hwk, hvk])
      have HF : Hid (wantB ws vs (k + 1) = F ++ [flagB u vs[k]]) := Lib.hid (by rw [wantB_succ, ← hF, hwk, hvk])
      have HCD := Lib.hid hcd
      have HS : Hid (strs (A ++ [[45, c]]) = strs A ++ [.string ⟨#[45, c]⟩]) := Lib.hid (by rw [strs_app]; rfl)
      have hcat2 := cat2 c
      obtain ⟨bv, offv, capv', ev, _, _, hbv, _, hcv'⟩ := HV1.out.at (by omega)
      injection ev with ev1 _ ev2
      subst ev1 ev2
      have hv0 := hcv' _ _ (strs_at vs k hlv)
      generalize vs[k] = val at *
      have HV0 := Lib.hid hv0
      have hbv1 : bv < w1.heap.size := by omega
      have hTq := hT.out.q
      clear hc hcl hcd hd hu hA hF hwk hvk hcv' hv0 hFl
      go_wp2_with (at_builtin; go_loud (refine wpList_append_own _ rfl (.tmp 55) (.tmp 60) 22 rfl w1.heap.size 9 j0 _ 1 16 Tryd.underlying22 hj hy0 hy1 hy2 rfl (by decide) _ A.length _ rfl (((hTq.alloc _).alloc _).alloc _) ⟨wr.heap.size + 2, 0, none⟩ 1 1 [.string ⟨#[45, c]⟩] rfl rfl (World.news_of_block (cs := #[.string ⟨#[45, c]⟩]) (t := 9) (fr := (0, 0)) (heap_three wr _ _ _)) (by simp [Value.oneCell']) (by unfold maxLen; omega) (by omega) (by simp; omega) ?_))
      intro v3 w3 ho3 hgr3 _
      obtain ⟨n0, hn0⟩ : ∃ n0, n0 = wr.heap.size := ⟨_, rfl⟩
      have hne := hT.out.ne.2
      have hTt3 := ownsRow_grown (((hT.out.t.alloc _).alloc _).alloc _) hgr3 hne
      have hF3 : w3.heap[n0]? = some (.cells #[.int .u8 c.toNat, .string { data := #[] }] 43 (0, 0)) := by
        rw [hn0]
        exact heap_keep (heap_al (heap_al (heap_alloc_new wr _) _) _) hgr3 (fun e => by have := (hTq.lt _ e).2; omega)
      have hB3 := below_appended (w := w1) (Nat.le_refl _) ((hB.alloc sB _).alloc (by simp; omega) _) ((hTq.alloc _).alloc _) hgr3
      have ho3' : w3.ownsRow w1.heap.size 9 1 v3 (A ++ [[45, c]]).length (strs (A ++ [[45, c]])) := by
        rw [HS.out, List.length_append]
        exact ho3
      have htn : ∀ g, Value.ownBlock _ = some g → g < n0 := fun g hg => by rw [hn0]; exact (hT.out.t.lt g hg).2
      have HTN := Lib.hid htn
      have hv3 : w3.cell? ⟨bv, offv + k, none⟩ = some (.string (bs val)) := (hB3.cell (p := ⟨bv, offv + k, none⟩) hbv1).trans HV0.out
      have hbn : bv < n0 := by omega
      have hn0' : w1.heap.size ≤ n0 := by omega
      have HQ3 := Lib.hid ho3'
      have HT3 := Lib.hid hTt3
      have HF3 := Lib.hid hF3
      rw [← hn0]
      clear hne htn ho3 ho3' hTt3 hF3 hgr3 hTq hn0 hcv hix hcat2 hcell
      by_cases hc : c = 109
      · subst hc
        have ff3 : w3.frozen? ⟨n0, 1, none⟩ = false := Lib.frozen_of_heap HF3.out 1
        have cf1 : w3.cell? ⟨n0, 1, none⟩ = some (.string { data := #[] }) := by rw [Lib.cell_of_heap HF3.out]; rfl
        have hq3n : v3.ownBlock ≠ some n0 := own_not HQ3.out HF3.out (by decide)
        have ht3n : Value.ownBlock _ ≠ some n0 := fun e => by have := HTN.out n0 e; omega
        have hF4 : Hid ((w3.setCell ⟨n0, 1, none⟩ (.string (bs val))).heap[n0]? = some (.cells #[.int .u8 (109 : UInt8).toNat, .string (bs val)] 43 (0, 0))) := Lib.hid (heap_set HF3.out)
        have hq4 : Hid ((w3.setCell ⟨n0, 1, none⟩ (.string (bs val))).ownsRow w1.heap.size 9 1 v3 (A ++ [[45, 109]]).length (strs (A ++ [[45, 109]]))) := Lib.hid (ownsRow_far HQ3.out hq3n)
        have ht4 : Hid ((w3.setCell ⟨n0, 1, none⟩ (.string (bs val))).ownsRow w1.heap.size 43 2 _ F.length (flags F)) := Lib.hid (ownsRow_far HT3.out ht3n)
        have hB4 : Below w1.heap.size w1 (w3.setCell ⟨n0, 1, none⟩ (.string (bs val))) := hB3.setCell (p := ⟨n0, 1, none⟩) hn0' _
        have hv4 : (w3.setCell ⟨n0, 1, none⟩ (.string (bs val))).cell? ⟨bv, offv + k, none⟩ = some (.string (bs val)) :=
          (World.cell?_setCell_other w3 ⟨n0, 1, none⟩ ⟨bv, offv + k, none⟩ _ (by intro e; injection e with e; omega)).trans hv3
        have HAA : Hid (A ++ [[45, 109]] ++ [val] = toldB ws vs (k + 1)) := Lib.hid (by rw [HA.out]; unfold tellB; rw [← HCD.out, if_pos rfl]; simp)
        have HFF : Hid (F ++ [((109 : UInt8), val)] = wantB ws vs (k + 1)) := Lib.hid (by rw [HF.out]; unfold flagB; rw [← HCD.out, if_pos rfl])
        have HFS : Hid (flags (F ++ [((109 : UInt8), val)]) = flags F ++ [.int .u8 (109 : UInt8).toNat, .string (bs val)]) := Lib.hid (flags_app _ _)
        have HSS : Hid (strs (A ++ [[45, 109]] ++ [val]) = strs (A ++ [[45, 109]]) ++ [.string (bs val)]) := Lib.hid (by rw [strs_app]; rfl)
        have hA1 : (A ++ [[45, 109]]).length ≤ 41 := by rw [List.length_append]; simp; omega
        obtain ⟨A1, hA1e⟩ : ∃ A1, A1 = A ++ [[45, 109]] := ⟨_, rfl⟩
        rw [← hA1e] at hq4 HAA HSS hA1
        have HA1E := Lib.hid hA1e
        clear hA1e
        go_wp2_with (at_builtin; go_loud (refine wpList_append_own _ rfl (.tmp 69) (.tmp 74) 22 rfl w1.heap.size 9 j0 _ 1 16 Tryd.underlying22 hj hy0 hy1 hy2 rfl (by decide) _ A1.length _ rfl (hq4.out.alloc _) ⟨w3.heap.size, 0, none⟩ 1 1 [.string (bs val)] rfl rfl (World.news_of_block (cs := #[.string (bs val)]) (t := 9) (fr := (0, 0)) (heap_setal w3 _ _ _)) (one_str _) (by unfold maxLen; omega) (by omega) (by have := hB4.size; simp at this ⊢; omega) ?_))
        intro v5 w5 ho5 hgr5 _
        have hB5 := below_appended (Nat.le_refl _) hB4 hq4.out hgr5
        have ho5' : Hid (w5.ownsRow w1.heap.size 9 1 v5 (A1 ++ [val]).length (strs (A1 ++ [val]))) := Lib.hid (by rw [HSS.out, List.length_append]; exact ho5)
        have ht5 : Hid (w5.ownsRow w1.heap.size 43 2 _ F.length (flags F)) := Lib.hid (ownsRow_grown (ht4.out.alloc _) hgr5 (own_ne ht4.out hq4.out (by decide)))
        have hF5 : Hid (w5.heap[n0]? = some (.cells #[.int .u8 (109 : UInt8).toNat, .string (bs val)] 43 (0, 0))) := Lib.hid (heap_keep (heap_al hF4.out _) hgr5 hq3n)
        have cf0 : w5.cell? ⟨n0, 0, none⟩ = some (.int .u8 (109 : UInt8).toNat) := by rw [Lib.cell_of_heap hF5.out]; rfl
        have cf5 : w5.cell? ⟨n0, 1, none⟩ = some (.string (bs val)) := by rw [Lib.cell_of_heap hF5.out]; rfl
        have s5 := hB5.size
        clear ho5 hgr5 hv4 cf1 ff3 hv3
        go_wp2_with (at_builtin; go_loud (refine wpList_append_own _ rfl (.tmp 76) (.tmp 78) 29 rfl w1.heap.size 43 i0 _ 2 24 Tryd.underlying29 hi hz0 hz1 hz2 rfl (by decide) _ F.length _ rfl (ht5.out.alloc _) ⟨w5.heap.size, 0, none⟩ 1 1 [.int .u8 (109 : UInt8).toNat, .string (bs val)] rfl rfl (World.news_of_block (cs := #[.int .u8 (109 : UInt8).toNat, .string (bs val)]) (t := 43) (fr := (0, 0)) (heap_alloc_new w5 _)) (by simp [Value.oneCell']) (by unfold maxLen; omega) (by omega) (by simp; omega) ?_))
        intro v6 w6 ho6 hgr6 _
        have hB6 := below_appended (Nat.le_refl _) hB5 ht5.out hgr6
        have hq6 := ownsRow_grown (ho5'.out.alloc _) hgr6 (own_ne ho5'.out ht5.out (by decide))
        have hT6 : Hid (Told w1.heap.size v5 v6 (toldB ws vs (k + 1)) (wantB ws vs (k + 1)) w6) := Lib.hid ⟨by rw [← HAA.out]; exact hq6, by rw [← HFF.out, HFS.out, List.length_append]; exact ho6⟩
        clear ho6 hgr6 hq6
        go_wp2_with fail
        go_roundw
        case rel => exact ⟨k + 1, by go_num, hlt, hT6, hB6⟩
        case measure => simp [intOf]; omega
      · have hI : ((c.toNat : Int) == 109) = false := u8_ne (k := 109) (by decide) hc
        have cf0 : w3.cell? ⟨n0, 0, none⟩ = some (.int .u8 c.toNat) := by rw [Lib.cell_of_heap HF3.out]; rfl
        have cf1 : w3.cell? ⟨n0, 1, none⟩ = some (.string { data := #[] }) := by rw [Lib.cell_of_heap HF3.out]; rfl
        have HAA : Hid (A ++ [[45, c]] = toldB ws vs (k + 1)) := Lib.hid (by rw [HA.out]; unfold tellB; rw [← HCD.out, if_neg hc])
        have HFF : Hid (F ++ [(c, [])] = wantB ws vs (k + 1)) := Lib.hid (by rw [HF.out]; unfold flagB; rw [← HCD.out, if_neg hc])
        have HFS : Hid (flags (F ++ [(c, [])]) = flags F ++ [.int .u8 c.toNat, .string { data := #[] }]) := Lib.hid (flags_app _ _)
        have s3 := hB3.size
        clear hc hv3
        go_wp2_with (at_builtin; go_loud (refine wpList_append_own _ rfl (.tmp 76) (.tmp 78) 29 rfl w1.heap.size 43 i0 _ 2 24 Tryd.underlying29 hi hz0 hz1 hz2 rfl (by decide) _ F.length _ rfl (HT3.out.alloc _) ⟨w3.heap.size, 0, none⟩ 1 1 [.int .u8 c.toNat, .string { data := #[] }] rfl rfl (World.news_of_block (cs := #[.int .u8 c.toNat, .string { data := #[] }]) (t := 43) (fr := (0, 0)) (heap_alloc_new w3 _)) (by simp [Value.oneCell']) (by unfold maxLen; omega) (by omega) (by simp; omega) ?_))
        intro v4 w4 ho4 hgr4 _
        have hB4 := below_appended (Nat.le_refl _) hB3 HT3.out hgr4
        have hq4 := ownsRow_grown (HQ3.out.alloc _) hgr4 (own_ne HQ3.out HT3.out (by decide))
        have hT4 : Hid (Told w1.heap.size v3 v4 (toldB ws vs (k + 1)) (wantB ws vs (k + 1)) w4) := Lib.hid ⟨by rw [← HAA.out]; exact hq4, by rw [← HFF.out, HFS.out, List.length_append]; exact ho4⟩
        clear ho4 hgr4 hq4
        go_wp2_with fail
        go_roundw
        case rel => exact ⟨k + 1, by go_num, hlt, hT4, hB4⟩
        case measure => simp [intOf]; omega
    · have hke : k = ws.length := by omega
      have hI2 : decide (k < ws.length) = false := by simp; omega
      obtain ⟨A, hA⟩ : ∃ A, A = toldB ws vs k := ⟨_, rfl⟩
      obtain ⟨F, hF⟩ : ∃ F, F = wantB ws vs k := ⟨_, rfl⟩
      rw [← hA, ← hF] at hT
      have hAl : A.length ≤ 40 := by rw [hA]; have := toldB_len ws vs k; omega
      have hFl : F.length ≤ 10000000 := by rw [hF, wantB_len]; omega
      have HP : Hid (parseL prmSpec (A ++ [45, 45] :: os) = .ok (F, os)) := Lib.hid (by rw [hA, hF]; exact parse_told ws vs k os)
      have HAS : Hid (∀ a ∈ A ++ [45, 45] :: os, a.length ≤ 65000) := Lib.hid (by
        intro a ha
        rcases List.mem_append.1 ha with h | h
        · rw [hA] at h; exact toldB_small ws vs HVA.out k a h
        · rcases List.mem_cons.1 h with rfl | h
          · decide
          · exact HOA.out a h)
      have HS1 : Hid (strs (A ++ [[45, 45]]) = strs A ++ [.string ⟨#[45, 45]⟩]) := Lib.hid (by rw [strs_app]; rfl)
      have HS2 : Hid (strs (A ++ [45, 45] :: os) = strs (A ++ [[45, 45]]) ++ strs os) := Lib.hid (by rw [← strs_app]; simp)
      have hTq := hT.out.q
      have HOr := Lib.hid (HO1.out.below (hB.mono s1))
      clear hA hF hke hlt
      go_wp2_with (at_builtin; go_loud (refine wpList_append_own _ rfl (.tmp 80) (.tmp 81) 22 rfl w1.heap.size 9 j0 _ 1 16 Tryd.underlying22 hj hy0 hy1 hy2 rfl (by decide) _ A.length _ rfl (hTq.alloc _) ⟨wr.heap.size, 0, none⟩ 1 1 [.string ⟨#[45, 45]⟩] rfl rfl (one_new _ _ _) (one_str _) (by unfold maxLen; omega) (by omega) (by simp; omega) ?_))
      intro v3 w3 ho3 hgr3 _
      have hB3 := below_appended (Nat.le_refl _) hB hTq hgr3
      have s3 := hB3.size
      have ht3 : Hid (w3.ownsRow w1.heap.size 43 2 _ F.length (flags F)) := Lib.hid (ownsRow_grown (hT.out.t.alloc _) hgr3 hT.out.ne.2)
      obtain ⟨A1, hA1⟩ : ∃ A1, A1 = A ++ [[45, 45]] := ⟨_, rfl⟩
      have hA1l : A1.length ≤ 41 := by rw [hA1, List.length_append]; simp; omega
      have ho3' : w3.ownsRow w1.heap.size 9 1 v3 A1.length (strs A1) := by rw [hA1, HS1.out, List.length_append]; exact ho3
      have HQ3 := Lib.hid ho3'
      rw [← hA1] at HS2
      have HO3 := Lib.hid (HO1.out.below (hB3.mono s1))
      have hMl : Hid ((A ++ [45, 45] :: os).length = A1.length + os.length) := Lib.hid (by rw [hA1]; simp; omega)
      clear ho3 hgr3 ho3' hA1 hTq
      go_wp2_with (at_builtin; go_loud (refine wpList_append_rd rfl (.tmp 82) (.tmp 83) 22 rfl w1.heap.size 9 j0 _ 1 16 Tryd.underlying22 hj hy0 hy1 hy2 rfl (by decide) _ A1.length _ rfl HQ3.out w.heap.size _ os.length (strs os) rfl HO3.out (strs_one _) (by unfold maxLen; omega) (by omega) s3 ?_))
      intro v4 w4 ho4 hgr4
      have hB4 : Below w1.heap.size w1 w4 := hB3.grown hgr4 s3 (fun j ej => (HQ3.out.lt j ej).1)
      have ht4 := ownsRow_grown ht3.out hgr4 (own_ne ht3.out HQ3.out (by decide))
      obtain ⟨M, hM⟩ : ∃ M, M = A ++ [45, 45] :: os := ⟨_, rfl⟩
      have hMl' : M.length = A1.length + os.length := by rw [hM]; exact hMl.out
      rw [← HS2.out, ← hM, ← hMl'] at ho4
      rw [← hM] at HP HAS
      have hMb : M.length ≤ 100 := by omega
      have HR4 := Lib.hid (Rd.own (B := w4.heap.size) ho4 (Nat.le_refl _))
      have HT4 := Lib.hid (Rd.own (B := w4.heap.size) ht4 (Nat.le_refl _))
      have b4 := ret_tr hb1 hB4
      have HG4 := Lib.hid (HG.out.below b4 (Nat.le_refl _))
      have HO4 := Lib.hid (HO1.out.below (hB4.mono s1))
      have s4 := hB4.size
      clear ho4 hgr4 ht4 hM hMl'
      go_wp2_with fail
      refine (parse_ok _ a0 a1 m prmSpec _ M _ HG4.out b4.size HR4.out hMb (by decide) HAS.out F os HP.out).mono ?_
      rintro e w5 ⟨va, vp, rfl, ha5, hp5, hb5⟩
      have b5 := ret_tr b4 hb5
      have s5 := hb5.size
      have HT5 := Lib.hid ((HT4.out.below hb5).mono s5)
      have HO5 := Lib.hid ((HO4.out.below (hb5.mono (by omega))).mono (show w.heap.size ≤ w5.heap.size by omega))
      have HA5 := Lib.hid ha5
      have HP5 := Lib.hid hp5
      obtain ⟨aoa, capa, rfl, _, _⟩ := ha5.form
      obtain ⟨aop, capp, rfl, _, _⟩ := hp5.form
      clear ha5 hp5 hb5
      go_wp2_with fail
      refine (its_any _ _ F _ HA5.out (Nat.le_refl _) hFl).mono ?_
      rintro e w6 ⟨ya, rfl, hya, hb6⟩
      have b6 := ret_tr b5 hb6
      have s6 := hb6.size
      have HT6 := Lib.hid ((HT5.out.below hb6).mono s6)
      have HO6 := Lib.hid ((HO5.out.below hb6).mono s6)
      have HP6 := Lib.hid ((HP5.out.below hb6).mono s6)
      clear hb6
      go_wp2_with fail
      refine (same_any _ _ _ F F _ hya HT6.out hFl hFl).mono ?_
      rintro e w7 ⟨rfl, n7, rfl⟩
      rw [dec_refl]
      go_wp2_with fail
      refine (texts_any _ _ _ os os _ (HP6.out.drewN n7) (HO6.out.drewN n7) (by omega) (by omega)).mono ?_
      rintro e w8 ⟨rfl, n8, rfl⟩
      rw [dec_refl]
      go_wp2_with fail
      go_ret
      exact ⟨rfl, below_drewN b6 _⟩

set_option maxRecDepth 100000 in
set_option maxHeartbeats 2000000 in
theorem back_walk (vw : Value) (ws : List UInt8) (vv : Value) (vs : List Str) (vo : Value) (os : List Str) (w : World) (a0 a1 : Addr) (m : Int) (hg : Gl w.heap.size a0 a1 m w) (hw : Rd w.heap.size 1 vw ws.length (bytes ws) w) (hv : Rd w.heap.size 1 vv vs.length (strs vs) w) (ho : Rd w.heap.size 1 vo os.length (strs os) w) :
    Calls Tryd.prog 5 #[vw, vv, vo] w fun e W' => e = .returned (.bool true) ∧ Below w.heap.size w W' := by
  obtain ⟨aow, capw, rfl, hwn, hwm⟩ := hw.form
  obtain ⟨aov, capv, rfl, hvn, hvm⟩ := hv.form
  obtain ⟨aoo, capo, rfl, hon, hom⟩ := ho.form
  unfold maxLen at hwm hvm hom
  have HG := Lib.hid hg
  have HV := Lib.hid hv
  have HO := Lib.hid ho
  by_cases h20 : 20 < ws.length
  · have h0 : decide ((20 : Int) < (ws.length : Int)) = true := by simp; omega
    clear hg hw hv ho
    go_enter Tryd.func5, Tryd.ntmps5
    go_wp2_with fail
    refine (shown_any _ a0 a1 m _ HG.out (Nat.le_refl _)).mono ?_
    rintro e w1 ⟨rfl, hb1⟩
    go_wp2_with fail
    go_ret
    exact ⟨rfl, hb1⟩
  have h0 : decide ((20 : Int) < (ws.length : Int)) = false := by simp; omega
  by_cases hlt : vs.length < ws.length
  · have h1 : decide (vs.length < ws.length) = true := by simpa using hlt
    clear hg hw hv ho hlt
    go_enter Tryd.func5, Tryd.ntmps5
    go_wp2_with fail
    refine (shown_any _ a0 a1 m _ HG.out (Nat.le_refl _)).mono ?_
    rintro e w1 ⟨rfl, hb1⟩
    go_wp2_with fail
    go_ret
    exact ⟨rfl, hb1⟩
  have h1 : decide (vs.length < ws.length) = false := by simp; omega
  by_cases hlv : longB vs = true
  · have HL := Lib.hid hlv
    clear hg hw hv ho hlt hlv
    go_enter Tryd.func5, Tryd.ntmps5
    go_wp2_with fail
    refine (long_any _ _ vs _ HV.out).mono ?_
    rintro e w0 ⟨rfl, rfl⟩
    rw [HL.out]
    go_wp2_with fail
    refine (shown_any _ a0 a1 m _ HG.out (Nat.le_refl _)).mono ?_
    rintro e w1 ⟨rfl, hb1⟩
    go_wp2_with fail
    go_ret
    exact ⟨rfl, hb1⟩
  have hlv' : longB vs = false := by simpa using hlv
  by_cases hlo : longB os = true
  · have HL := Lib.hid hlv'
    have HM := Lib.hid hlo
    clear hg hw hv ho hlt hlv hlv' hlo
    go_enter Tryd.func5, Tryd.ntmps5
    go_wp2_with fail
    refine (long_any _ _ vs _ HV.out).mono ?_
    rintro e w0 ⟨rfl, rfl⟩
    rw [HL.out]
    go_wp2_with fail
    refine (long_any _ _ os _ HO.out).mono ?_
    rintro e w0 ⟨rfl, rfl⟩
    rw [HM.out]
    go_wp2_with fail
    refine (shown_any _ a0 a1 m _ HG.out (Nat.le_refl _)).mono ?_
    rintro e w1 ⟨rfl, hb1⟩
    go_wp2_with fail
    go_ret
    exact ⟨rfl, hb1⟩
  exact back_small _ _ _ ws vs os w a0 a1 m hg hw hv ho (by omega) (by omega) hlv' (by simpa using hlo)
end Go.Proofs.YtjgadmodhkdllaaDoor
