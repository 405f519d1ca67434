/-
  The program's stack: copies of lists, the first of them, Push, Pop, Top.
-/
import Derived.Test.YtedcffkmfopalaaDoorJobF
import Derived.Test.YtedcffkmfopalaaDoorJobI
import Derived.Deep.RegionLawGrows
import Derived.Lib.SlBuf
namespace Go.Proofs.YtedcffkmfopalaaDoor
open Go.RowKit Go.Shelf
attribute [local go_sem ↓] Go.wp_at_zero Go.wp_at_succ

theorem then_set1 {P : World → Prop} {w : World} {b i : Nat} {u : Value} {cs : Array Value} {t : TypeId} (hb : w.heap[b]? = some (.cells cs t (0, 0)))
    (h : ∀ W', Below b w W' → (∀ g, g ≠ b → W'.heap[g]? = w.heap[g]?) → W'.heap.size = w.heap.size → W'.heap[b]? = some (.cells (cs.setIfInBounds i u) t (0, 0)) → P W') : P (w.setCell ⟨b, i, none⟩ u) :=
  h _ ((Below.refl b w).setCell (p := ⟨b, i, none⟩) (Nat.le_refl _) u) (fun g hg => Below.heap_setCell _ _ _ g hg) (by simp [World.setCell]) (heap_set hb)
theorem infoStrJ : (Tryd.prog.info? 9).map (fun i => (i.zero, i.size, i.bytes)) = some (some (.string ⟨#[]⟩), 1, 16) := by kernel_rfl
theorem infoFrJ : (Tryd.prog.info? 46).map (fun i => (i.zero, i.size, i.bytes)) = some (some (.agg #[.int .i64 0, .string ⟨#[]⟩, .slice none 0 0]), 3, 48) := by kernel_rfl
theorem intsJ_one (l : List Int) : ∀ u ∈ intsJ l, u.oneCell' = true := by
  intro u hu
  obtain ⟨x, _, rfl⟩ := List.mem_map.1 hu
  rfl
set_option maxRecDepth 100000 in
set_option maxHeartbeats 1000000 in
theorem clone_strs (v : Value) (l : List Str) (w : World) (hv : Rd w.heap.size 1 v l.length (strs l) w) (hl : l.length ≤ 10000) :
    Calls Tryd.prog 35 #[v] w fun e w' => ∃ v', e = .returned v' ∧ w'.ownsRow w.heap.size 9 1 v' l.length (strs l) ∧ Below w.heap.size w w' := by
  obtain ⟨i0, hi, hz0, hz1, hz2⟩ := info_parts infoStrJ
  have qq : ∀ (w : World) (a : Option Addr) (n c n' c' : Nat), (binOp .eql 22 (.slice a n c) (.slice none n' c')).run Tryd.prog w = .ok (.bool a.isNone) w := fun w a n c n' c' => Lib.run_eql_slice_nil w _ _ a n c n' c' Tryd.underlying22
  obtain ⟨ao, cap, rfl, hc, hm, h0, hlen, _⟩ := id hv
  cases ao with
  | none =>
    obtain rfl := h0 rfl
    have hl0 : l = [] := List.eq_nil_of_length_eq_zero (by omega)
    subst hl0
    go_enter Tryd.func35, Tryd.ntmps35
    go_wp2_with fail
    go_ret
    exact ⟨_, rfl, World.ownsRow_nil _ _ _ _, Below.refl _ _⟩
  | some a =>
    have hba : Below w.heap.size w (w.alloc (.cells #[] 9)) := (Below.refl _ w).alloc (Nat.le_refl _) _
    have HV := Lib.hid (hv.below hba)
    clear hv
    go_enter Tryd.func35, Tryd.ntmps35
    go_wp2_with (at_builtin; go_loud (refine wpList_append_rd rfl (.tmp 5) (.tmp 6) 22 rfl w.heap.size 9 i0 _ 1 16 Tryd.underlying22 hi hz0 hz1 hz2 rfl (by decide) _ 0 [] rfl (World.ownsRow_lit (size := 1) w #[] 0 (Nat.le_refl _) (Nat.zero_le _) rfl) w.heap.size _ l.length (strs l) rfl HV.out (strs_one _) (by unfold maxLen; omega) (by omega) (by simp) ?_))
    intro v3 w3 ho3 hgr3
    have hB3 : Below w.heap.size w w3 := hba.grown hgr3 (by simp) (fun j ej => by simp [Value.ownBlock] at ej; omega)
    go_wp2_with fail
    go_ret
    exact ⟨_, rfl, ho3, hB3⟩
set_option maxRecDepth 100000 in
set_option maxHeartbeats 1000000 in
theorem clone_ints (v : Value) (l : List Int) (w : World) (hv : Rd w.heap.size 1 v l.length (intsJ l) w) (hl : l.length ≤ 10000) :
    Calls Tryd.prog 28 #[v] w fun e w' => ∃ v', e = .returned v' ∧ w'.ownsRow w.heap.size 3 1 v' l.length (intsJ l) ∧ Below w.heap.size w w' := by
  obtain ⟨i0, hi, hz0, hz1, hz2⟩ := info_parts infoInt
  have qq : ∀ (w : World) (a : Option Addr) (n c n' c' : Nat), (binOp .eql 24 (.slice a n c) (.slice none n' c')).run Tryd.prog w = .ok (.bool a.isNone) w := fun w a n c n' c' => Lib.run_eql_slice_nil w _ _ a n c n' c' Tryd.underlying24
  obtain ⟨ao, cap, rfl, hc, hm, h0, hlen, _⟩ := id hv
  cases ao with
  | none =>
    obtain rfl := h0 rfl
    have hl0 : l = [] := List.eq_nil_of_length_eq_zero (by omega)
    subst hl0
    go_enter Tryd.func28, Tryd.ntmps28
    go_wp2_with fail
    go_ret
    exact ⟨_, rfl, World.ownsRow_nil _ _ _ _, Below.refl _ _⟩
  | some a =>
    have hba : Below w.heap.size w (w.alloc (.cells #[] 3)) := (Below.refl _ w).alloc (Nat.le_refl _) _
    have HV := Lib.hid (hv.below hba)
    clear hv
    go_enter Tryd.func28, Tryd.ntmps28
    go_wp2_with (at_builtin; go_loud (refine wpList_append_rd rfl (.tmp 5) (.tmp 6) 24 rfl w.heap.size 3 i0 _ 1 8 Tryd.underlying24 hi hz0 hz1 hz2 rfl (by decide) _ 0 [] rfl (World.ownsRow_lit (size := 1) w #[] 0 (Nat.le_refl _) (Nat.zero_le _) rfl) w.heap.size _ l.length (intsJ l) rfl HV.out (intsJ_one _) (by unfold maxLen; omega) (by omega) (by simp) ?_))
    intro v3 w3 ho3 hgr3
    have hB3 : Below w.heap.size w w3 := hba.grown hgr3 (by simp) (fun j ej => by simp [Value.ownBlock] at ej; omega)
    go_wp2_with fail
    go_ret
    exact ⟨_, rfl, ho3, hB3⟩
set_option maxRecDepth 100000 in
set_option maxHeartbeats 4000000 in
theorem front_c (ao : Option Addr) (n cap k : Nat) (hk : k ≤ cap) (w : World) :
    Calls Tryd.prog 36 #[.slice ao n cap, .int .i64 k] w fun e w' => e = .returned (.slice ao k k) ∧ w' = w := by
  have h0 : (0 : Int) ≤ (k : Int) := by omega
  have h1 : (k : Int) ≤ (cap : Int) := by omega
  have h2 : (k : Int) ≤ (k : Int) := Int.le_refl _
  go_enter Tryd.func36, Tryd.ntmps36
  go_wp2_with fail
  go_ret
  first | exact ⟨rfl, rfl⟩ | (cases ao <;> simp)
theorem cellsF_take (ms : List FrameM) (k : Nat) : cellsF (ms.take k) = (cellsF ms).take (k * 3) := by
  induction ms generalizing k with
  | nil => simp [cellsF]
  | cons m ms ih =>
    cases k with
    | zero => simp [cellsF]
    | succ k =>
      have e : cellsF (m :: ms) = fcells m ++ cellsF ms := by simp [cellsF]
      have e2 : cellsF ((m :: ms).take (k + 1)) = fcells m ++ cellsF (ms.take k) := by simp [cellsF]
      rw [e, e2, ih, List.take_append, List.take_of_length_le (l := fcells m) (by show 3 ≤ _; omega)]
      have : (k + 1) * 3 - (fcells m).length = k * 3 := by show (k + 1) * 3 - 3 = _; omega
      rw [this]
/-- The first k of a list of frames. -/
theorem GivesF.front {l : List FrameL} {ao : Option Addr} {n cap : Nat} {W : World} (h : GivesF l (.slice ao n cap) W) (k : Nat) (hk : k ≤ l.length) : GivesF (l.take k) (.slice ao k k) W := by
  obtain ⟨ms, rfl, h1, h2⟩ := h
  have hkm : k ≤ ms.length := by rwa [pf_len] at hk
  have hlk : (ms.take k).length = k := by rw [List.length_take]; omega
  refine ⟨ms.take k, by simp [pf], ?_, fun m hm => h2 m (List.mem_of_mem_take hm)⟩
  obtain ⟨a, c, e, hc, hm, h0, hl, hx⟩ := h1
  injection e with e1 e2 e3
  subst e1 e2 e3
  rw [hlk]
  refine ⟨ao, k, rfl, Nat.le_refl _, by omega, fun e => by have := h0 e; omega, by rw [cellsF_len, hlk], fun h => ?_⟩
  obtain ⟨b, off, e, hb, hcell⟩ := hx (by omega)
  refine ⟨b, off, e, hb, fun j u hu => hcell j u ?_⟩
  rw [cellsF_take, List.getElem?_take] at hu
  split at hu
  · exact hu
  · cases hu
def pushJ (a : JobL) (f : FrameL) : JobL := { a with stack := a.stack ++ [f] }
def popJ (a : JobL) : JobL := { a with stack := a.stack.dropLast }
/-- What gives another job, that lies elsewhere in its stack. -/
def JobIs (b : JobL) (vn vd : Value) (e : Ending) (w w' : World) : Prop := ∃ vs, e = .returned (jval b vn vs vd) ∧ GivesJ b vn vs vd w' ∧ Below w.heap.size w w'
abbrev zeroJ : Array Value := #[.int .i64 0, .int .i64 0, .int .i64 0, .int .i64 0, .int .i64 0, .int .i64 0, .int .i64 0, .int .i64 0, .int .i64 0, .string ⟨#[]⟩, .string ⟨#[]⟩, .string ⟨#[]⟩, .slice none 0 0, .slice none 0 0, .slice none 0 0, .bool false, .int .i64 0, .string ⟨#[]⟩, .int .i64 0]
/-- Behind the push: the job in its block, the row of its own. -/
structure PushQ (a : JobL) (ms : List FrameM) (f : FrameL) (vn vd : Value) (ao2 : Option Addr) (cap2 b B : Nat) (w W : World) : Prop where
  blk : ∃ aov capv, W.heap[b]? = some (.cells #[.int .i64 a.kind, .int .i64 a.p, .int .i64 a.phase, .int .i64 a.fd, .int .i64 a.n, .int .i64 a.mode, .int .i64 a.tries, .int .i64 a.pos, .int .i64 a.flags, .string (bs a.path), .string (bs a.path2), .string (bs a.text), vn, .slice aov (ms.length + 1) capv, vd, .bool a.done, .int .i64 a.exit, .string (bs a.out), .int .i64 a.e] 27 (0, 0)) ∧ W.ownsRow B 46 3 (.slice aov (ms.length + 1) capv) (ms.length + 1) (cellsF (ms ++ [(f, .slice ao2 f.names.length cap2)]))
  res : W.heap[b + 2]? = some (.cells zeroJ 27 (0, 0))
  bel : Below b w W
  rd : Rd W.heap.size 1 (.slice ao2 f.names.length cap2) f.names.length (strs f.names) W
theorem pushQ {a : JobL} {ms : List FrameM} {f : FrameL} {vn vd vs : Value} {ao2 : Option Addr} {cap2 b : Nat} {w W3 w' : World} {o : Obj} {aov : Option Addr} {capv : Nat}
    (hA : W3.heap[b]? = some (.cells #[.int .i64 a.kind, .int .i64 a.p, .int .i64 a.phase, .int .i64 a.fd, .int .i64 a.n, .int .i64 a.mode, .int .i64 a.tries, .int .i64 a.pos, .int .i64 a.flags, .string (bs a.path), .string (bs a.path2), .string (bs a.text), vn, vs, vd, .bool a.done, .int .i64 a.exit, .string (bs a.out), .int .i64 a.e] 27 (0, 0))) (hA3 : W3.heap[b + 2]? = some (.cells zeroJ 27 (0, 0))) (hB : Below b w W3) (hav : ∀ a n c, (.slice ao2 f.names.length cap2 : Value) = .slice (some a) n c → 0 < n → a.block ≠ b) (hn : Rd W3.heap.size 1 (.slice ao2 f.names.length cap2) f.names.length (strs f.names) W3)
    (hown : w'.ownsRow (W3.alloc o).drew.heap.size 46 3 (.slice aov (ms.length + 1) capv) (ms.length + 1) (cellsF ms ++ [.int .i64 f.fd, .string (bs f.name), .slice ao2 f.names.length cap2])) (hgrow : (W3.alloc o).drew.grownBy w' none) :
    PushQ a ms f vn vd ao2 cap2 b W3.heap.size w (w'.setCell ⟨b, 13, none⟩ (.slice aov (ms.length + 1) capv)) := by
  have hlt : b < W3.heap.size := lt_some hA
  have hlt3 : b + 2 < W3.heap.size := lt_some hA3
  have hba : Below W3.heap.size W3 w' := ((Below.refl _ W3).alloc (Nat.le_refl _) o).drew.grown hgrow (by simp) (fun j ej => by cases ej)
  have hcs : cellsF (ms ++ [(f, .slice ao2 f.names.length cap2)]) = cellsF ms ++ [.int .i64 f.fd, .string (bs f.name), .slice ao2 f.names.length cap2] := by rw [cellsF_app]; simp [cellsF, fcells]
  refine ⟨⟨aov, capv, heap_set ((hba.block _ hlt).trans hA), ?_⟩, (Below.heap_setCell _ _ _ _ (by show b + 2 ≠ b; omega)).trans ((hba.block _ hlt3).trans hA3), (hB.trans (hba.mono (Nat.le_of_lt hlt))).setCell (p := ⟨b, 13, none⟩) (Nat.le_refl _) _, ?_⟩
  · rw [hcs]
    exact ownsRow_set (own_mono hown (by simp)) hlt
  · have h1 := rd_keep hn hba
    have hs : (w'.setCell ⟨b, 13, none⟩ (.slice aov (ms.length + 1) capv)).heap.size = w'.heap.size := by simp [World.setCell]
    rw [hs]
    exact rd_other h1 hav (fun g hg => Below.heap_setCell _ _ _ g hg)
set_option maxRecDepth 100000 in
set_option maxHeartbeats 4000000 in
theorem pPush_c (a : JobL) (hl : a.stack.length ≤ 10000) (f : FrameL) (hf : f.names.length ≤ 10000) (vn vs vd vf : Value) (w : World) (ha : GivesJ a vn vs vd w) (hvf : Rd w.heap.size 1 vf f.names.length (strs f.names) w) :
    Calls Tryd.prog 17 #[jval a vn vs vd, fval f vf] w fun e w' => JobIs (pushJ a f) vn vd e w w' := by
  obtain ⟨an, cn, rfl, _, _⟩ := Rd.form ha.nm
  obtain ⟨ax, cs, rfl, _, _⟩ := ha.st.form
  obtain ⟨ad, cd, rfl, _, _⟩ := Rd.form ha.dr
  obtain ⟨af, cf, rfl, _, _⟩ := Rd.form hvf
  obtain ⟨ms, hms, hrd, hrn⟩ := ha.st
  have hlm : a.stack.length = ms.length := by rw [← hms, pf_len]
  obtain ⟨i0, hi, hz0, hz1, hz2⟩ := info_parts infoFrJ
  have HA := Lib.hid ha
  have HF := Lib.hid hvf
  have HR := Lib.hid hrd
  have HN := Lib.hid hrn
  have HMS := Lib.hid hms
  rw [hlm] at hl ⊢
  have HLM := Lib.hid hlm
  clear ha hvf hrd hrn hms hlm
  go_enter Tryd.func17, Tryd.ntmps17
  go_upto_region 1 with (fail)
  refine code_fresh3 ?_
  intro W1 hb hA hA2 hA3 hs
  obtain ⟨f0, f1, f2⟩ := cells3 hA2
  have ff := fun j => Lib.frozen_of_heap hA2 j
  go_wp2_with fail
  refine (clone_strs _ f.names W1 (rd_keep HF.out hb) hf).mono ?_
  rintro e W2 ⟨v2, rfl, ho2, hb2⟩
  obtain ⟨ao2, cap2, rfl⟩ := own_form ho2
  replace hA := (hb2.block _ (by omega)).trans hA
  replace hA2 := (hb2.block _ (by omega)).trans hA2
  replace hA3 := (hb2.block _ (by omega)).trans hA3
  have sz2 := hb2.size
  have hB2 := ret_tr hb hb2
  clear hb hb2 f0 f1 f2 ff
  have ff := fun j => Lib.frozen_of_heap hA2 j
  obtain ⟨f0, f1, f2⟩ := cells3 hA2
  go_upto_region 2 with (fail)
  refine code_set1 hA2 ?_
  intro W3 hb3 hg3 hs3 hA23
  replace hA2 : W3.heap[w.heap.size + 1]? = some (.cells #[.int .i64 f.fd, .string (bs f.name), .slice ao2 f.names.length cap2] 46 (0, 0)) := hA23
  replace hA := (hg3 w.heap.size (by omega)).trans hA
  replace hA3 := (hg3 (w.heap.size + 2) (by omega)).trans hA3
  have ho3 := ownsRow_other (W' := W3) ho2 (fun g hg => hg3 g (by omega))
  have hB3 := hB2.trans (hb3.mono (by omega))
  clear ff f0 f1 f2 hb3 hg3 hB2 hA23 ho2
  have HN3 := Lib.hid (Rd.own ho3 (Nat.le_refl _))
  have HAV := Lib.hid (own_far ho3 (g := w.heap.size) (by omega))
  have HAV2 := Lib.hid (own_far ho3 (g := w.heap.size + 2) (by omega))
  have H3 := Lib.hid hB3
  have p13 : W3.cell? ⟨w.heap.size, 13, none⟩ = some (.slice ax ms.length cs) := by rw [Lib.cell_of_heap hA]; rfl
  have pf13 : W3.frozen? ⟨w.heap.size, 13, none⟩ = false := Lib.frozen_of_heap hA 13
  obtain ⟨f0, f1, f2⟩ := cells3 hA2
  have hlow : w.heap.size < W3.heap.size := by omega
  have HRd := Lib.hid (rd_keep HR.out hB3)
  have hcs : ms.length ≤ cs := by obtain ⟨_, _, e, h, _⟩ := HR.out; injection e with _ _ e; omega
  clear ho3 hB3
  have pa13 : ∀ o : Obj, (W3.alloc o).drew.cell? ⟨w.heap.size, 13, none⟩ = some (.slice ax ms.length cs) := fun o => ((Below.refl W3.heap.size W3).alloc (Nat.le_refl _) o).cell (p := ⟨w.heap.size, 13, none⟩) hlow |>.trans p13
  have pfa13 : ∀ o : Obj, (W3.alloc o).drew.frozen? ⟨w.heap.size, 13, none⟩ = false := fun o => ((Below.refl W3.heap.size W3).alloc (Nat.le_refl _) o).frozen (p := ⟨w.heap.size, 13, none⟩) hlow |>.trans pf13
  have hlow2 : w.heap.size + 2 < W3.heap.size := by omega
  clear hs3 sz2 hs
  have HOLD : Hid (∀ (o : Obj) (b : Addr), ax = some b → ∀ j u, (cellsF ms)[j]? = some u → (W3.alloc o).drew.cell? (b.add j) = some u) := Lib.hid fun o b e j u hu => by
    have hn : 0 < ms.length := by have := (List.getElem?_eq_some_iff.1 hu).1; rw [cellsF_len] at this; omega
    have hba : Below W3.heap.size W3 (W3.alloc o) := (Below.refl _ W3).alloc (Nat.le_refl _) o
    obtain ⟨b2, off, cap3, e2, _, _, hlt, _, hc⟩ := (HRd.out.below hba).at hn
    injection e2 with e2 _ _
    rw [e] at e2
    injection e2 with e2
    subst e2
    have hadd : (⟨b2, off, none⟩ : Addr).add j = ⟨b2, off + j, none⟩ := by unfold Addr.add; split <;> simp_all
    rw [hadd]
    exact hc j u hu
  have HNO : Hid (ax = none → ms.length = 0 ∧ ms.length = 0) := Lib.hid fun e => by obtain ⟨_, _, e2, h, _, h0, _⟩ := HR.out; injection e2 with e2 _ e3; subst e2; have := h0 e; omega
  clear hcs
  have hcs : ms.length ≤ cs := by obtain ⟨_, _, e, h, _⟩ := HR.out; injection e with _ _ e; omega
  replace hA3 : W3.heap[w.heap.size + 2]? = some (.cells zeroJ 27 (0, 0)) := hA3
  go_cut [9] (fun s9 wx => s9 = .pointer (some ⟨w.heap.size, 13, none⟩) ∧ Hid (PushQ a ms f (.slice an a.names.length cn) (.slice ad a.draws.length cd) ao2 cap2 w.heap.size W3.heap.size w wx))
  case first =>
    go_region_law (first | (go_simp; go_at_call 36; with_reducible refine (front_c ax ms.length cs ms.length hcs _).mono ?_; rintro e _ ⟨rfl, rfl⟩) | (refine step_append_grows rfl (.tmp 14) (.tmp 16) 23 rfl 46 i0 _ 3 48 Tryd.underlying23 hi hz0 hz1 hz2 rfl (by decide) ax ms.length ms.length (cellsF ms) (by rfl) HNO.out (cellsF_len ms) (HOLD.out _) ⟨W3.heap.size, 0, none⟩ 1 1 [.int .i64 f.fd, .string (bs f.name), .slice ao2 f.names.length cap2] (by rfl) rfl (World.news_of_block (cs := #[.int .i64 f.fd, .string (bs f.name), .slice ao2 f.names.length cap2]) (t := 46) (fr := (0, 0)) (heap_alloc_new W3 _)) (by intro u hu; simp only [List.mem_cons, List.not_mem_nil, or_false] at hu; rcases hu with rfl | rfl | rfl <;> rfl) (by omega) (by unfold maxLen; omega) (by omega) ?_; intro v' w' hown hgrow; obtain ⟨aov, capv, rfl⟩ := own_form hown; have pc1 : w'.cell? ⟨w.heap.size, 13, none⟩ = some (.slice ax ms.length cs) := (hgrow.cell_far ⟨w.heap.size, 13, none⟩ (by simp; omega) (by simp)).trans (pa13 _); have pf1 : w'.frozen? ⟨w.heap.size, 13, none⟩ = false := (hgrow.frozen_far ⟨w.heap.size, 13, none⟩ (by simp; omega) (by simp)).trans (pfa13 _)))
    all_goals
      as_aux_lemma =>
      go_wp2_with fail
      go_meet
      exact ⟨rfl, Lib.hid (pushQ hA hA3 H3.out HAV.out HN3.out hown hgrow)⟩
  case rest =>
  obtain ⟨rfl, HQ⟩ := hcut
  generalize wc = W4 at *
  clear p13 pf13 pa13 pfa13 f0 f1 f2 hA hA2 hA3 HOLD HNO HRd
  obtain ⟨⟨aov, capv, hA, hown⟩, hR, hB, hrd⟩ := HQ.out
  clear HQ
  have HO := Lib.hid hown
  have HN4 := Lib.hid hrd
  have HB := Lib.hid hB
  clear hown hrd hB
  go_wp2_with (first | (refine wpList_load_row rfl 27 _ rfl _ rfl 27 _ (0, 0) _ hA Tryd.underlying27 rfl (by kernel_rfl) ?_) | (refine wpList_store_row rfl 27 _ _ rfl _ rfl rfl hR rfl (by kernel_rfl) rfl ?_; intro W6 hb6 hg6 hs6 hR6))
  (try simp only [Exit.inBlock, Exit.then])
  refine bodyPost_ret (results_cell_row (p := 4) (ty := 27) rfl _ W6 (w.heap.size + 2) _ _ _ _ rfl hR6 Tryd.underlying27 rfl (by kernel_rfl)) rfl ?_
  have hB6 : Below w.heap.size w W6 := HB.out.trans (hb6.mono (by omega))
  have hO6 := ownsRow_other (W' := W6) HO.out (fun g hg => hg6 g (by omega))
  have hn6 := rd_other HN4.out HAV2.out hg6
  refine ⟨.slice aov (ms.length + 1) capv, ?_, ⟨rd_keep HA.out.nm hB6, ⟨ms ++ [(f, .slice ao2 f.names.length cap2)], (show pf (ms ++ [(f, .slice ao2 f.names.length cap2)]) = a.stack ++ [f] by rw [← HMS.out]; simp [pf]), ?_, ?_⟩, rd_keep HA.out.dr hB6⟩, hB6⟩
  · unfold pushJ jval; rfl
  · have := Rd.own hO6 (Nat.le_refl _)
    rw [show (ms ++ [(f, (.slice ao2 f.names.length cap2 : Value))]).length = ms.length + 1 by simp]
    exact this
  · intro m hm
    rcases List.mem_append.1 hm with hm | hm
    · exact rd_keep (HN.out m hm) hB6
    · obtain rfl := List.mem_singleton.1 hm
      rw [hs6]
      exact hn6
end Go.Proofs.YtedcffkmfopalaaDoor
