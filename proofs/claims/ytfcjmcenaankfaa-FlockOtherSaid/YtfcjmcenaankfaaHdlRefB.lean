/-
  The document's copied: a table of one's own.
-/
import Derived.Test.YtfcjmcenaankfaaHdlRefA
namespace Go.Proofs.Ytfcjmcenaankfaa
open Go.RowKit Go.Shelf
attribute [local go_sem ↓] Go.wp_at_zero Go.wp_at_succ

theorem gr_below {w W W' : World} {row : Option Nat} (hb : Below w.heap.size w W) (hg : W.grownBy W' row) (hrow : ∀ g, row = some g → w.heap.size ≤ g) : Below w.heap.size w W' :=
  hb.grown hg hb.size hrow
theorem Sf.grown {X : Nat → Prop} {w W W' : World} {B : List Bl} {G : List Thing} {row : Option Nat} (h : Sf X w B G W) (h0 : ∀ P ∈ G, P X w) (hg : W.grownBy W' row) (hrow : ∀ g, row = some g → w.heap.size ≤ g ∧ ∀ x ∈ B, x.1 ≠ g) : Sf X w B G W' := by
  have hb := gr_below h.bel hg fun g e => (hrow g e).1
  refine ⟨hb, h.old, fun x hx => ⟨(hg.block x.1 (h.lt hx) fun e => (hrow x.1 e.symm).2 x hx rfl).trans (h.blk x hx).1, (h.blk x hx).2⟩, h.nd, fun P hP => ⟨(h.gv P hP).1, (h.gv P hP).1.add (h0 P hP) hb fun g hg => ?_⟩⟩
  rcases hg with hg | hg
  · exact .inl hg
  · obtain ⟨x, hx, rfl⟩ := List.mem_map.1 hg
    exact .inr (h.blk x hx).2
/-- A block of the call's own is none of a row's of another kind. -/
theorem Sf.apart {X : Nat → Prop} {w W : World} {B : List Bl} {G : List Thing} (h : Sf X w B G W) {b : Nat} {e : TypeId} {s n : Nat} {v : Value} {xs : List Value} (ho : W.ownsRow b e s v n xs) (hne : (B.map (·.2.2)).contains e = false) : ∀ g, v.ownBlock = some g → ∀ x ∈ B, x.1 ≠ g := by
  intro g hg x hx e1
  obtain ⟨cs, h1⟩ := own_type ho hg
  rw [← e1, (h.blk x hx).1] at h1
  injection h1 with h1
  injection h1 with _ h1
  have h2 : (B.map (·.2.2)).contains e = true := List.contains_iff_mem.2 (h1 ▸ List.mem_map.2 ⟨x, hx, rfl⟩)
  rw [hne] at h2
  cases h2
theorem OwnT.nil (tD tS tI : TypeId) {base : Nat} {ds : List DescL} {vd : Value} {W : World} (h : W.ownsRow base tD 6 vd ds.length (cellsD ds)) : OwnT tD tS tI base ⟨ds, []⟩ vd (.slice none 0 0) [] W :=
  ⟨rfl, h, World.ownsRow_nil _ _ _ _, (fun m hm => by cases hm), fun i j a b ha _ _ => by cases ha⟩
theorem own_empty {W : World} {g s : Nat} {e : TypeId} (h : W.heap[g]? = some (.cells #[] e (0, 0))) : W.ownsRow g e s (.slice (some ⟨g, 0, none⟩) 0 0) 0 [] := ⟨by simp, .inr ⟨g, 0, #[], rfl, Nat.le_refl _, h, Nat.le_refl _, Nat.zero_le _, by simp, by simp⟩⟩
/-- One cell is written, in a region that draws. -/
theorem wp_store_cell {P : Program} {op : Oper} {a : Act} {w : World} {K : Act → World → Prop} {Q : Exit → Act → World → Prop} (ty : TypeId) (x y : Operand) (ho : op.op = .store ty x y)
    (b i : Nat) {v : Value} {cs : Array Value} {t : TypeId} (hx : a.eval x = .pointer (some ⟨b, i, none⟩)) (hy : a.eval y = v) (hc : v.cells = #[v]) (h1 : v.oneCell' = true) (hb : w.heap[b]? = some (.cells cs t (0, 0))) (hi : i < cs.size) (hz : (P.info? ty).map (·.size) = some 1)
    (h : ∀ W', Below b w W' → (∀ g, g ≠ b → W'.heap[g]? = w.heap[g]?) → W'.heap.size = w.heap.size → W'.heap[b]? = some (.cells (cs.setIfInBounds i v) t (0, 0)) → K (a.put op.dst undef) W') : op.wp P a w K Q := by
  have hst := run_storeCells_cells (P := P) b i [v] 0 w (fun j hj => by
    have : j = 0 := by simpa using hj
    subst this
    rw [Lib.cell_of_heap hb]
    simp [hi]) (fun j _ => Lib.frozen_of_heap hb _) (fun u hu => by rw [List.mem_singleton] at hu; subst hu; exact h1)
  have hK := h (w.setCell ⟨b, i, none⟩ v) ((Below.refl b w).setCell (p := ⟨b, i, none⟩) (Nat.le_refl _) v) (fun g hg => Below.heap_setCell _ _ _ g hg) (by simp [World.setCell]) (heap_set hb)
  have hsv : (storeVar ty ⟨b, i, none⟩ v).run P w = .ok () (w.setCell ⟨b, i, none⟩ v) := by
    simp only [Nat.add_zero] at hst
    cases hq : P.info? ty with
    | none => simp [hq] at hz
    | some n =>
      have hs : n.size = 1 := by simpa [hq] using hz
      simp [storeVar, sizeOf, typeInfo, hq, hc, hs, hst, World.setCells]
  unfold Oper.wp execOp
  simp only [ho, hx, hy, Instr.storeAt, Instr.sureAddr, Sem.run_bind, Sem.run_pure, Result.andThen_ok, hsv]
  exact hK
/-- An append of whatever slice reads as a list of cells, in a region that draws. -/
theorem wp_append_rd {P : Program} {w : World} {o : Oper} {a : Act} {K : Act → World → Prop} {Q : Exit → Act → World → Prop} (s x : Operand) (t : TypeId)
    (ho : o.op = .call { callee := .builtin .append, args := #[s, x], argTypes := #[t, t] })
    (base : Nat) (e : TypeId) (i : TypeInfo) (z : Value) (size bytes : Nat) (ht : P.underlying t = some (.slice e)) (hi : P.info? e = some i) (hz : i.zero = some z) (hsize : i.size = size) (hby : i.bytes = bytes) (hzs : z.cells.size = size) (hsz : 0 < size)
    (v : Value) (n : Nat) (xs : List Value) (hs : a.eval s = v) (hown : w.ownsRow base e size v n xs) (B : Nat) (vx : Value) (m : Nat) (ms : List Value) (hx : a.eval x = vx) (hr : Rd B size vx m ms w) (h1 : ∀ u ∈ ms, u.oneCell' = true)
    (h63 : n + m ≤ maxLen) (hbytes : (n + m) * bytes ≤ 140737488355328) (hbase : base ≤ w.heap.size)
    (h : ∀ v' w', w'.ownsRow base e size v' (n + m) (xs ++ ms) → w.grownBy w' v.ownBlock → K (a.put o.dst v') w') : o.wp P a w K Q := by
  obtain ⟨ao, cap, rfl, hc, hm, h0, hl, hcell⟩ := hr
  cases ao with
  | none =>
    obtain rfl := h0 rfl
    obtain rfl : m = 0 := by omega
    obtain rfl := List.eq_nil_of_length_eq_zero (by simpa using hl)
    have hrun := run_append_owned_none (P := P) (w := w) base t o.type e i size ht hi v n xs hown
    unfold Oper.wp
    simp [execOp, ho, resolve, invoke, builtin, hs, hx, hrun, Result.andThen]
    exact h v w (by simpa using hown) (World.grownBy.refl w _)
  | some ad =>
    refine wp_append_own w s x t ho base e i z size bytes ht hi hz hsize hby hzs hsz v n xs hs hown ad m cap ms hx hl (fun j u hu => ?_) h1 h63 hbytes hbase fun v' w' h2 h3 _ => h v' w' h2 h3
    have hpos : 0 < m := by
      rcases Nat.eq_zero_or_pos m with h | h
      · subst h
        obtain rfl := List.eq_nil_of_length_eq_zero (by simpa using hl)
        simp at hu
      · exact h
    obtain ⟨b, off, e, _, hcc⟩ := hcell hpos
    injection e with e
    subst e
    rw [Go.WideShapes.add_plain]
    exact hcc j u hu
/-- A row more. -/
theorem OwnT.push {tD tS tI : TypeId} {base : Nat} {ds : List DescL} {fs : List (List Int)} {vd vf : Value} {rows : List RowV} {W0 W1 W2 : World} (h : OwnT tD tS tI base ⟨ds, fs⟩ vd vf rows W0) (hb : Below W0.heap.size W0 W1) {r : List Int} {v vf' : Value}
    (hv : W1.ownsRow base tI 1 v r.length (intC r)) (hn : ∀ g, v.ownBlock = some g → W0.heap.size ≤ g) (hf : W2.ownsRow base tS 1 vf' (rows.length + 1) (rows.map (·.2) ++ [v])) (hg : W1.grownBy W2 vf.ownBlock) (hD : tS ≠ tD) (hI : tS ≠ tI) : OwnT tD tS tI base ⟨ds, fs ++ [r]⟩ vd vf' (rows ++ [(r, v)]) W2 := by
  have h1 := h.below hb
  have keep : ∀ {e : TypeId} {s n : Nat} {u : Value} {xs : List Value}, W1.ownsRow base e s u n xs → tS ≠ e → W2.ownsRow base e s u n xs := fun h' he => by
    refine ⟨h'.1, h'.2.imp id ?_⟩
    rintro ⟨g', cap, cur, rfl, k1, k2, k3⟩
    refine ⟨g', cap, cur, rfl, k1, (hg.block g' (Array.getElem?_eq_some_iff.1 k2).1 fun e => ?_).trans k2, k3⟩
    exact own_ne h1.out h' he g' e.symm rfl
  refine ⟨by rw [List.map_append, h.fs]; rfl, keep h1.ds hD, by rw [List.length_append, List.map_append]; exact hf, fun m hm => ?_, ?_⟩
  · rcases List.mem_append.1 hm with hm | hm
    · exact keep (h1.row m hm) hI
    · rw [List.mem_singleton] at hm; subst hm; exact keep hv hI
  · have hlt : ∀ (i : Nat) (a : RowV), rows[i]? = some a → ∀ g, a.2.ownBlock = some g → g < W0.heap.size := fun i a ha g hg => by
      obtain ⟨cs, hc⟩ := own_type (h.row a (List.mem_of_getElem? ha)) hg
      exact (Array.getElem?_eq_some_iff.1 hc).1
    have at' : ∀ (i : Nat) (a : RowV), (rows ++ [(r, v)])[i]? = some a → (i < rows.length ∧ rows[i]? = some a) ∨ (i = rows.length ∧ a = (r, v)) := fun i a ha => by
      rw [List.getElem?_append] at ha
      split at ha
      · rename_i hi; exact .inl ⟨hi, ha⟩
      · rename_i hi
        have : i - rows.length = 0 := by
          rcases Nat.eq_zero_or_pos (i - rows.length) with h0 | h0
          · exact h0
          · rw [List.getElem?_eq_none (by rw [List.length_singleton]; omega)] at ha; cases ha
        rw [this] at ha
        injection ha with ha
        exact .inr ⟨by omega, ha.symm⟩
    intro i j a b ha hb' hne g hga hgb
    rcases at' i a ha with ⟨hi, ha⟩ | ⟨hi, rfl⟩
    · rcases at' j b hb' with ⟨hj, hb'⟩ | ⟨hj, rfl⟩
      · exact h.apart i j a b ha hb' hne g hga hgb
      · have := hlt i a ha g hga; have := hn g hgb; omega
    · rcases at' j b hb' with ⟨hj, hb'⟩ | ⟨hj, rfl⟩
      · have := hlt j b hb' g hgb; have := hn g hga; omega
      · omega
theorem infoDescR : (Try.prog.info? 55).map (fun i => (i.zero, i.size, i.bytes)) = some (some (.agg #[.int .i64 0, .int .i64 0, .bool false, .bool false, .int .i64 0, .int .i64 0]), 6, 40) := by kernel_rfl
theorem infoInt : (Try.prog.info? 3).map (fun i => (i.zero, i.size, i.bytes)) = some (some (.int .i64 0), 1, 8) := by kernel_rfl
theorem infoRow : (Try.prog.info? 48).map (fun i => (i.zero, i.size, i.bytes)) = some (some (.slice none 0 0), 1, 24) := by kernel_rfl
theorem info_parts {P : Program} {t : TypeId} {z : Value} {s b : Nat} (h : (P.info? t).map (fun i => (i.zero, i.size, i.bytes)) = some (some z, s, b)) : ∃ i, P.info? t = some i ∧ i.zero = some z ∧ i.size = s ∧ i.bytes = b := by
  obtain ⟨i, h1, h2⟩ := Option.map_eq_some_iff.1 h
  injection h2 with h2 h3
  injection h3 with h3 h4
  exact ⟨i, h1, h2, h3, h4⟩
/-- A copy: a table of one's own. -/
def CopyIs (tD : TypeId) (t : TabL) (e : Ending) (w w' : World) : Prop :=
  ∃ ad cap af capf rows, e = .returned (tabV ad t.ds.length cap af t.fs.length capf) ∧ OwnT tD 48 3 w.heap.size t (.slice ad t.ds.length cap) (.slice af t.fs.length capf) rows w' ∧ Below w.heap.size w w'
set_option maxRecDepth 100000 in
set_option maxHeartbeats 4000000 in
theorem rcopied_c {X : Nat → Prop} (t : TabL) (ad af : Option Addr) (cap capf : Nat) (w : World) (hT : TabX t (.slice ad t.ds.length cap) (.slice af t.fs.length capf) X w) (hz : SizeT t) :
    Calls Try.prog 31 #[tabV ad t.ds.length cap af t.fs.length capf] w fun e w' => CopyIs 55 t e w w' := by
  have S0 := Lib.hid (Sf.start (w := w) (X := fun _ => False) (G := [TabX t (.slice ad t.ds.length cap) (.slice af t.fs.length capf)]) (fun _ h => h.elim) (th1 (TabX.firm _ _ _) ((TabX.firm _ _ _).sub hT fun _ h => h.elim)))
  have H0 := Lib.hid (((TabX.firm _ _ _).sub hT fun _ h => h.elim : TabX t (.slice ad t.ds.length cap) (.slice af t.fs.length capf) (fun _ => False) w))
  have HRET : Hid (∀ (W : World) (cs : Array Value) (fr), W.heap[w.heap.size + 1]? = some (.cells cs 33 fr) → cs.size = 2 → ∀ tmps : Array Value, tmps.getD 2 undef = .pointer (some ⟨w.heap.size + 1, 0, none⟩) → (results Try.f31 tmps).run Try.prog W = .ok (.agg cs) W) := Lib.hid fun W cs fr h hs tmps ht =>
  results_cell_row (p := 2)  (ty := 33) rfl tmps W (w.heap.size + 1) _ cs fr _ ht h Try.underlying33 rfl (by rw [hs]; kernel_rfl)
  obtain ⟨iD, hD, hDz, hDs, hDb⟩ := info_parts infoDescR
  obtain ⟨iI, hI, hIz, hIs, hIb⟩ := info_parts infoInt
  obtain ⟨iR, hR, hRz, hRs, hRb⟩ := info_parts infoRow
  have HZ := Lib.hid hz
  clear hT hz
  go_enter Try.func31, Try.ntmps31
  go_upto_region 1 with (fail)
  refine code_fresh2 ?_
  intro W1 hb hA0 hA1 hs
  have S1 := Lib.hid (S0.out.new2 hb hA0 hA1)
  clear hb hA0 hA1 hs
  obtain ⟨d0, d1⟩ := cells2 (S1.out.at 0 rfl)
  have hl1 : t.ds.length ≤ 1000 := HZ.out.1
  go_upto_region 2 with (first
      | (refine wpList_fresh1 ?_; intro W2 hb2 hA2 hs2; have S2 := Lib.hid (S1.out.call hb2); have d0 := (cells2 (S2.out.at 0 rfl)).1; obtain ⟨rows0, er0, hrd1, -, -⟩ := S2.out.g 0 rfl; have hown0 := own_empty (s := 6) hA2; have hlt2 := (Array.getElem?_eq_some_iff.1 hA2).1; clear hb2 hs2)
      | (at_builtin; go_loud (refine wpList_append_rd rfl (.tmp 5) (.tmp 7) 31 rfl W1.heap.size 55 iD _ 6 40 Try.underlying31 hD hDz hDs hDb rfl (by decide) _ 0 [] rfl hown0 W2.heap.size _ t.ds.length (cellsD t.ds) rfl hrd1.1 (cellsD_one _) (by unfold maxLen; omega) (by omega) (by omega) ?_); intro v3 w3 ho3 hgr3; rw [Nat.zero_add, List.nil_append] at ho3; obtain ⟨ao3, cp3, rfl⟩ := own_form ho3; have S3 := Lib.hid (S2.out.grown (fun P hP => by rw [List.mem_singleton] at hP; subst hP; exact H0.out) hgr3 (fun g e => ⟨Option.some.inj e ▸ S1.out.bel.size, S2.out.apart hown0 rfl g e⟩)); have HO := Lib.hid (OwnT.nil 55 48 3 (own_mono ho3 S1.out.bel.size)); clear d0 hown0 hgr3 ho3)
      | (refine wpList_fresh1 ?_; intro W4 hb4 hA4 hs4; have S4 := Lib.hid (S3.out.new1 hb4 hA4); replace HO := Lib.hid (HO.out.below hb4); have h_o := S4.out.at 2 rfl; clear hb4 hA4 hs4)
      | (refine wpList_store_row rfl 33 _ _ rfl _ rfl rfl h_o rfl (by kernel_rfl) rfl ?_; intro W5 hb hg hs hn; have S5 := Lib.hid (S4.out.set 2 rfl hb hg hs hn); replace HO := Lib.hid (HO.out.other h_o (by decide) (by decide) (by decide) hg); clear hb hg hs hn h_o))
  clear d1
  obtain ⟨bo, hbo⟩ : ∃ bo, bo = w3.heap.size := ⟨_, rfl⟩
  rw [← hbo] at S5 ⊢
  clear hbo
  go_wp2_with fail
  skip
  go_loopw [4] (fun i wr => ∃ (k : Nat) (vf : Value) (rows : List RowV), i = .int .i64 k ∧ k ≤ t.fs.length ∧ Hid (Sf (fun _ => False) w [(w.heap.size, #[.slice ad t.ds.length cap, .slice af t.fs.length capf], 33), (w.heap.size + 1, #[.slice none 0 0, .slice none 0 0], 33), (bo, #[.slice ao3 t.ds.length cp3, vf], 33)] [TabX t (.slice ad t.ds.length cap) (.slice af t.fs.length capf)] wr) ∧ Hid (OwnT 55 48 3 w.heap.size ⟨t.ds, t.fs.take k⟩ (.slice ao3 t.ds.length cp3) vf rows wr)) (fun i _ => t.fs.length - (RowKit.intOf i).toNat)
  case atStart => exact ⟨0, _, [], rfl, Nat.zero_le _, S5, HO⟩
  case round =>
    clear S5 HO S4 S3 S2
    obtain ⟨k, vf, rows, rfl, hk, S6, HO⟩ := hrel
    have hlf : t.fs.length ≤ 20 := HZ.out.2.1
    have d1 := (cells2 (S6.out.at 0 rfl)).2
    by_cases hlt : k < t.fs.length
    · have iL : decide (k < t.fs.length) = true := decide_eq_true hlt
      have iL2 : decide ((k : Int) < (t.fs.length : Int)) = true := decide_eq_true (by omega)
      have k0 : (0 : Int) ≤ (k : Int) := by omega
      have k1 : (k : Int) < (t.fs.length : Int) := by omega
      have w1 : IntKind.i64.wrap ((k : Int) + 1) = (k : Int) + 1 := Go.IntWalk.i64_in _ (by omega)
      go_upto_region 5 with (fail)
      clear d1
      obtain ⟨b, off, ar, cr, eaf, hbw, cR0, hR0⟩ := TabX.row H0.out k hlt
      subst eaf
      obtain ⟨r, hrow⟩ : ∃ r, r = t.fs[k] := ⟨_, rfl⟩
      have hrl : r.length ≤ 20 := by rw [hrow]; exact HZ.out.2.2 _ (List.getElem_mem hlt)
      rw [← hrow] at cR0 hR0
      have HT := Lib.hid (show t.fs.take (k + 1) = t.fs.take k ++ [r] by rw [hrow]; exact List.take_succ_eq_append_getElem hlt)
      clear hrow
      have hvf := own_form HO.out.out
      obtain ⟨aof, cpf, rfl⟩ := hvf
      have hrows : rows.length = k := by have := rows_len HO.out.fs; rw [this, List.length_take]; omega
      subst hrows
      have CR : ∀ Z : World, Below w.heap.size w Z → Z.cell? ⟨b, off + rows.length, none⟩ = some (.slice ar r.length cr) := fun _ hb => (hb.cell (p := ⟨b, off + rows.length, none⟩) hbw).trans cR0
      have HCR := Lib.hid CR
      have HR0 := Lib.hid hR0
      clear CR cR0 hR0
      refine wp_region_held_drew (S := fun W => W.cell? ⟨w.heap.size, 1, none⟩ = some (.slice (some ⟨b, off, none⟩) t.fs.length capf) ∧ W.cell? ⟨b, off + rows.length, none⟩ = some (.slice ar r.length cr) ∧ True) (by kernel_rfl) ⟨(cells2 (S6.out.at 0 rfl)).2, HCR.out _ S6.out.bel.drew, trivial⟩ (fun hHeld => ?_)
      have S7 := Lib.hid (S6.out.call (Below.refl wr.heap.size wr).drew)
      have HO7 := Lib.hid (HO.out.below (Below.refl wr.heap.size wr).drew)
      generalize wr.drew = W7 at *
      clear S6 HO
      refine wpAnyH_take (i := 0) (v := ?v1) rfl (by kernel_rfl) (by kernel_rfl) (by kernel_rfl) (fun _ _ _ h => h) (Or.inl ⟨by rfl, ?hy1⟩) hHeld ?rest1
      case hy1 => (intro w hSw; (try dsimp only at hSw); (try go_split_ands); go_simp; first | done | with_reducible rfl)
      (try simp only [List.getElem_toArray]); (try simp only [List.getElem_cons_succ]); (try simp only [List.getElem_cons_zero]); (try simp only [Act.put]); (try simp only [List.setIfInBounds_toArray]); (try simp only [List.set_cons_succ]); (try simp only [List.set_cons_zero])
      refine wpAnyH_take (i := 3) (v := ?v2) rfl (by kernel_rfl) (by kernel_rfl) (by kernel_rfl) (fun _ _ _ h => h) (Or.inl ⟨by rfl, ?hy2⟩) hHeld ?rest2
      case hy2 => (intro w hSw; (try dsimp only at hSw); (try go_split_ands); go_simp; first | done | with_reducible rfl)
      (try simp only [List.getElem_toArray]); (try simp only [List.getElem_cons_succ]); (try simp only [List.getElem_cons_zero]); (try simp only [Act.put]); (try simp only [List.setIfInBounds_toArray]); (try simp only [List.set_cons_succ]); (try simp only [List.set_cons_zero])
      refine wpAnyH_take (i := 4) (v := ?v3) rfl (by kernel_rfl) (by kernel_rfl) (by kernel_rfl) (fun _ _ _ h => h) (Or.inl ⟨by rfl, ?hy3⟩) hHeld ?rest3
      case hy3 => (intro w hSw; (try dsimp only at hSw); (try go_split_ands); go_simp; first | done | with_reducible rfl)
      (try simp only [List.getElem_toArray]); (try simp only [List.getElem_cons_succ]); (try simp only [List.getElem_cons_zero]); (try simp only [Act.put]); (try simp only [List.setIfInBounds_toArray]); (try simp only [List.set_cons_succ]); (try simp only [List.set_cons_zero])
      refine wpAnyH_take (i := 5) (v := ?v4) rfl (by kernel_rfl) (by kernel_rfl) (by kernel_rfl) (fun _ _ _ h => h) (Or.inl ⟨by rfl, ?hy4⟩) hHeld ?rest4
      case hy4 => (intro w hSw; (try dsimp only at hSw); (try go_split_ands); go_simp; first | done | with_reducible rfl)
      (try simp only [List.getElem_toArray]); (try simp only [List.getElem_cons_succ]); (try simp only [List.getElem_cons_zero]); (try simp only [Act.put]); (try simp only [List.setIfInBounds_toArray]); (try simp only [List.set_cons_succ]); (try simp only [List.set_cons_zero])
      refine wpAnyH_take (i := 6) (v := ?v5) rfl (by kernel_rfl) (by kernel_rfl) (by kernel_rfl) (fun _ _ _ h => h) (Or.inl ⟨by rfl, ?hy5⟩) hHeld ?rest5
      case hy5 => (intro w hSw; (try dsimp only at hSw); (try go_split_ands); go_simp; first | done | with_reducible rfl)
      (try simp only [List.getElem_toArray]); (try simp only [List.getElem_cons_succ]); (try simp only [List.getElem_cons_zero]); (try simp only [Act.put]); (try simp only [List.setIfInBounds_toArray]); (try simp only [List.set_cons_succ]); (try simp only [List.set_cons_zero])
      refine wpAnyH_take (i := 7) (v := ?v6) rfl (by kernel_rfl) (by kernel_rfl) (by kernel_rfl) (fun _ _ _ h => h) (Or.inl ⟨by rfl, ?hy6⟩) hHeld ?rest6
      case hy6 => (intro w hSw; (try dsimp only at hSw); (try go_split_ands); go_simp; first | done | with_reducible rfl)
      (try simp only [List.getElem_toArray]); (try simp only [List.getElem_cons_succ]); (try simp only [List.getElem_cons_zero]); (try simp only [Act.put]); (try simp only [List.setIfInBounds_toArray]); (try simp only [List.set_cons_succ]); (try simp only [List.set_cons_zero])
      refine wpAnyH_ready (rs := [1, 2]) (by kernel_rfl) (by simp) ?_
      refine AllReadyH.cons rfl (fun K' hK => ?_) (AllReadyH.cons rfl (fun K' hK => ?_) AllReadyH.nil)
      · have o1 := (cells2 (S7.out.at 2 rfl)).2
        go_simp
        clear o1
        refine hK.out _ _ ⟨(cells2 (S7.out.at 0 rfl)).2, HCR.out _ S7.out.bel, trivial⟩ (fun hHeld => ?_)
        clear hK K'
        (try simp only [List.getElem_toArray]); (try simp only [List.getElem_cons_succ]); (try simp only [List.getElem_cons_zero]); (try simp only [Act.put]); (try simp only [List.setIfInBounds_toArray]); (try simp only [List.set_cons_succ]); (try simp only [List.set_cons_zero])
        refine wpAnyH_ready (rs := [2]) (by kernel_rfl) (by simp) ?_
        refine AllReadyH.cons rfl (fun K' hK => ?_) AllReadyH.nil
        go_simp
        refine fresh1 (P := fun W => K' _ W) ?_
        intro W8 hb8 hA hs
        have S8 := Lib.hid (S7.out.call hb8)
        have hown8 := own_empty (s := 1) hA
        have hlt8 := (Array.getElem?_eq_some_iff.1 hA).1
        refine hK.out _ _ ⟨(cells2 (S8.out.at 0 rfl)).2, HCR.out _ S8.out.bel, trivial⟩ (fun hHeld => ?_)
        clear hK K'
        (try simp only [List.getElem_toArray]); (try simp only [List.getElem_cons_succ]); (try simp only [List.getElem_cons_zero]); (try simp only [Act.put]); (try simp only [List.setIfInBounds_toArray]); (try simp only [List.set_cons_succ]); (try simp only [List.set_cons_zero])
        refine wpAnyH_ready (rs := [8]) (by kernel_rfl) (by simp) ?_
        refine AllReadyH.cons rfl (fun K' hK => ?_) AllReadyH.nil
        rw [if_pos (by rfl)]
        refine wp_append_rd (.tmp 19) (.tmp 24) 48 rfl W7.heap.size 3 iI _ 1 8 Try.underlying48 hI hIz hIs hIb rfl (by decide) _ 0 [] rfl hown8 W8.heap.size _ r.length (intC r) rfl ((RdX.firm _ _ _ _).keep HR0.out S8.out.bel).1 (intC_one _) (by unfold maxLen; omega) (by omega) (by omega) ?_
        intro v9 W9 ho9 hgr9
        rw [Nat.zero_add, List.nil_append] at ho9
        obtain ⟨ao9, cp9, rfl⟩ := own_form ho9
        have S9 := Lib.hid (S8.out.grown (fun P hP => by rw [List.mem_singleton] at hP; subst hP; exact H0.out) hgr9 (fun g e => ⟨Option.some.inj e ▸ S7.out.bel.size, S8.out.apart hown8 rfl g e⟩))
        have hb9 : Below W7.heap.size W7 W9 := hb8.grown hgr9 hb8.size (fun j ej => Nat.le_of_eq (Option.some.inj ej))
        refine hK.out _ _ ⟨(cells2 (S9.out.at 0 rfl)).2, HCR.out _ S9.out.bel, trivial⟩ (fun hHeld => ?_)
        clear hK K'
        (try simp only [List.getElem_toArray]); (try simp only [List.getElem_cons_succ]); (try simp only [List.getElem_cons_zero]); (try simp only [Act.put]); (try simp only [List.setIfInBounds_toArray]); (try simp only [List.set_cons_succ]); (try simp only [List.set_cons_zero])
        refine wpAnyH_ready (rs := [9]) (by kernel_rfl) (by simp) ?_
        refine AllReadyH.cons rfl (fun K' hK => ?_) AllReadyH.nil
        go_simp
        refine fresh1 (P := fun W => K' _ W) ?_
        intro W10 hb10 hA10 hs10
        have S10 := Lib.hid (S9.out.call hb10)
        have hb710 := ret_tr hb9 hb10
        have HO10 := Lib.hid (HO7.out.below hb710)
        refine hK.out _ _ ⟨(cells2 (S10.out.at 0 rfl)).2, HCR.out _ S10.out.bel, trivial⟩ (fun hHeld => ?_)
        clear hK K'
        (try simp only [List.getElem_toArray]); (try simp only [List.getElem_cons_succ]); (try simp only [List.getElem_cons_zero]); (try simp only [Act.put]); (try simp only [List.setIfInBounds_toArray]); (try simp only [List.set_cons_succ]); (try simp only [List.set_cons_zero])
        refine wpAnyH_ready (rs := [10]) (by kernel_rfl) (by simp) ?_
        refine AllReadyH.cons rfl (fun K' hK => ?_) AllReadyH.nil
        rw [if_pos (by rfl)]
        refine wp_append_lies W10 (.tmp 18) (.tmp 26) 23 rfl w.heap.size 48 iR _ 1 24 Try.underlying23 hR hRz hRs hRb rfl (by decide) (.slice aof rows.length cpf) rows.length (rows.map (·.2)) rfl HO10.out.out ⟨W9.heap.size, 0, none⟩ 1 1 [.slice ao9 r.length cp9] rfl rfl (World.news_of_block (cs := #[.slice ao9 r.length cp9]) (t := 48) (fr := (0, 0)) hA10) (fun u hu => by rw [List.mem_singleton] at hu; subst hu; exact own_one ho9) (by decide) (by unfold maxLen; omega) (by omega) S10.out.bel.size _ rfl ?_
        intro gg cp2 W11 hown11 hgr11 hat11 hlt11
        have S11 := Lib.hid (S10.out.grown (fun P hP => by rw [List.mem_singleton] at hP; subst hP; exact H0.out) hgr11 (fun g e => ⟨(HO10.out.out.lt g e).1, S10.out.apart HO10.out.out rfl g e⟩))
        have HO11 := Lib.hid (HO7.out.push hb710 (own_mono (ownsRow_below ho9 hb10 (Nat.le_refl _)) S7.out.bel.size) (fun g e => (ho9.lt g e).1) hown11 hgr11 (by decide) (by decide))
        refine hK.out _ _ ⟨(cells2 (S11.out.at 0 rfl)).2, HCR.out _ S11.out.bel, trivial⟩ (fun hHeld => ?_)
        clear hK K'
        (try simp only [List.getElem_toArray]); (try simp only [List.getElem_cons_succ]); (try simp only [List.getElem_cons_zero]); (try simp only [Act.put]); (try simp only [List.setIfInBounds_toArray]); (try simp only [List.set_cons_succ]); (try simp only [List.set_cons_zero])
        refine wpAnyH_take (i := 11) (v := ?v7) rfl (by kernel_rfl) (by kernel_rfl) (by kernel_rfl) (fun _ _ _ h => h) (Or.inl ⟨by rfl, ?hy7⟩) hHeld ?rest7
        case hy7 => (intro w hSw; (try dsimp only at hSw); (try go_split_ands); go_simp; first | done | with_reducible rfl)
        (try simp only [List.getElem_toArray]); (try simp only [List.getElem_cons_succ]); (try simp only [List.getElem_cons_zero]); (try simp only [Act.put]); (try simp only [List.setIfInBounds_toArray]); (try simp only [List.set_cons_succ]); (try simp only [List.set_cons_zero])
        refine wpAnyH_ready (rs := [12]) (by kernel_rfl) (by simp) ?_
        refine AllReadyH.cons rfl (fun K' hK => ?_) AllReadyH.nil
        rw [if_pos (by rfl)]
        refine wp_store_cell (v := .slice (some ⟨gg, 0, none⟩) (rows.length + 1) cp2) 23 _ _ rfl bo 1 rfl rfl rfl rfl (S11.out.at 2 rfl) (by simp) (by kernel_rfl) ?_
        intro W12 hb hg hs hn
        have S12 := Lib.hid (S11.out.set 2 rfl hb hg hs hn)
        have HO12 := Lib.hid (HO11.out.other (S11.out.at 2 rfl) (by decide) (by decide) (by decide) hg)
        rw [← HT.out] at HO12
        clear hb hg hs hn
        refine hK.out _ _ ⟨(cells2 (S12.out.at 0 rfl)).2, HCR.out _ S12.out.bel, trivial⟩ (fun hHeld => ?_)
        clear hK K'
        (try simp only [List.getElem_toArray]); (try simp only [List.getElem_cons_succ]); (try simp only [List.getElem_cons_zero]); (try simp only [Act.put]); (try simp only [List.setIfInBounds_toArray]); (try simp only [List.set_cons_succ]); (try simp only [List.set_cons_zero])
        refine wpAnyH_done (by kernel_rfl) ?_ _
        go_wp2_with fail
        go_roundw
        case rel => exact ⟨rows.length + 1, .slice (some ⟨gg, 0, none⟩) (rows.length + 1) cp2, rows ++ [(r, .slice ao9 r.length cp9)], by go_num, hlt, S12, HO12⟩
        case measure => simp [RowKit.intOf]; omega
      · go_simp
        refine fresh1 (P := fun W => K' _ W) ?_
        intro W8 hb8 hA hs
        have S8 := Lib.hid (S7.out.call hb8)
        have hown8 := own_empty (s := 1) hA
        have hlt8 := (Array.getElem?_eq_some_iff.1 hA).1
        refine hK.out _ _ ⟨(cells2 (S8.out.at 0 rfl)).2, HCR.out _ S8.out.bel, trivial⟩ (fun hHeld => ?_)
        clear hK K'
        (try simp only [List.getElem_toArray]); (try simp only [List.getElem_cons_succ]); (try simp only [List.getElem_cons_zero]); (try simp only [Act.put]); (try simp only [List.setIfInBounds_toArray]); (try simp only [List.set_cons_succ]); (try simp only [List.set_cons_zero])
        refine wpAnyH_ready (rs := [1, 8]) (by kernel_rfl) (by simp) ?_
        refine AllReadyH.cons rfl (fun K' hK => ?_) (AllReadyH.cons rfl (fun K' hK => ?_) AllReadyH.nil)
        · have o1 := (cells2 (S8.out.at 2 rfl)).2
          go_simp
          clear o1
          refine hK.out _ _ ⟨(cells2 (S8.out.at 0 rfl)).2, HCR.out _ S8.out.bel, trivial⟩ (fun hHeld => ?_)
          clear hK K'
          (try simp only [List.getElem_toArray]); (try simp only [List.getElem_cons_succ]); (try simp only [List.getElem_cons_zero]); (try simp only [Act.put]); (try simp only [List.setIfInBounds_toArray]); (try simp only [List.set_cons_succ]); (try simp only [List.set_cons_zero])
          refine wpAnyH_ready (rs := [8]) (by kernel_rfl) (by simp) ?_
          refine AllReadyH.cons rfl (fun K' hK => ?_) AllReadyH.nil
          rw [if_pos (by rfl)]
          refine wp_append_rd (.tmp 19) (.tmp 24) 48 rfl W7.heap.size 3 iI _ 1 8 Try.underlying48 hI hIz hIs hIb rfl (by decide) _ 0 [] rfl hown8 W8.heap.size _ r.length (intC r) rfl ((RdX.firm _ _ _ _).keep HR0.out S8.out.bel).1 (intC_one _) (by unfold maxLen; omega) (by omega) (by omega) ?_
          intro v9 W9 ho9 hgr9
          rw [Nat.zero_add, List.nil_append] at ho9
          obtain ⟨ao9, cp9, rfl⟩ := own_form ho9
          have S9 := Lib.hid (S8.out.grown (fun P hP => by rw [List.mem_singleton] at hP; subst hP; exact H0.out) hgr9 (fun g e => ⟨Option.some.inj e ▸ S7.out.bel.size, S8.out.apart hown8 rfl g e⟩))
          have hb9 : Below W7.heap.size W7 W9 := hb8.grown hgr9 hb8.size (fun j ej => Nat.le_of_eq (Option.some.inj ej))
          refine hK.out _ _ ⟨(cells2 (S9.out.at 0 rfl)).2, HCR.out _ S9.out.bel, trivial⟩ (fun hHeld => ?_)
          clear hK K'
          (try simp only [List.getElem_toArray]); (try simp only [List.getElem_cons_succ]); (try simp only [List.getElem_cons_zero]); (try simp only [Act.put]); (try simp only [List.setIfInBounds_toArray]); (try simp only [List.set_cons_succ]); (try simp only [List.set_cons_zero])
          refine wpAnyH_ready (rs := [9]) (by kernel_rfl) (by simp) ?_
          refine AllReadyH.cons rfl (fun K' hK => ?_) AllReadyH.nil
          go_simp
          refine fresh1 (P := fun W => K' _ W) ?_
          intro W10 hb10 hA10 hs10
          have S10 := Lib.hid (S9.out.call hb10)
          have hb710 := ret_tr hb9 hb10
          have HO10 := Lib.hid (HO7.out.below hb710)
          refine hK.out _ _ ⟨(cells2 (S10.out.at 0 rfl)).2, HCR.out _ S10.out.bel, trivial⟩ (fun hHeld => ?_)
          clear hK K'
          (try simp only [List.getElem_toArray]); (try simp only [List.getElem_cons_succ]); (try simp only [List.getElem_cons_zero]); (try simp only [Act.put]); (try simp only [List.setIfInBounds_toArray]); (try simp only [List.set_cons_succ]); (try simp only [List.set_cons_zero])
          refine wpAnyH_ready (rs := [10]) (by kernel_rfl) (by simp) ?_
          refine AllReadyH.cons rfl (fun K' hK => ?_) AllReadyH.nil
          rw [if_pos (by rfl)]
          refine wp_append_lies W10 (.tmp 18) (.tmp 26) 23 rfl w.heap.size 48 iR _ 1 24 Try.underlying23 hR hRz hRs hRb rfl (by decide) (.slice aof rows.length cpf) rows.length (rows.map (·.2)) rfl HO10.out.out ⟨W9.heap.size, 0, none⟩ 1 1 [.slice ao9 r.length cp9] rfl rfl (World.news_of_block (cs := #[.slice ao9 r.length cp9]) (t := 48) (fr := (0, 0)) hA10) (fun u hu => by rw [List.mem_singleton] at hu; subst hu; exact own_one ho9) (by decide) (by unfold maxLen; omega) (by omega) S10.out.bel.size _ rfl ?_
          intro gg cp2 W11 hown11 hgr11 hat11 hlt11
          have S11 := Lib.hid (S10.out.grown (fun P hP => by rw [List.mem_singleton] at hP; subst hP; exact H0.out) hgr11 (fun g e => ⟨(HO10.out.out.lt g e).1, S10.out.apart HO10.out.out rfl g e⟩))
          have HO11 := Lib.hid (HO7.out.push hb710 (own_mono (ownsRow_below ho9 hb10 (Nat.le_refl _)) S7.out.bel.size) (fun g e => (ho9.lt g e).1) hown11 hgr11 (by decide) (by decide))
          refine hK.out _ _ ⟨(cells2 (S11.out.at 0 rfl)).2, HCR.out _ S11.out.bel, trivial⟩ (fun hHeld => ?_)
          clear hK K'
          (try simp only [List.getElem_toArray]); (try simp only [List.getElem_cons_succ]); (try simp only [List.getElem_cons_zero]); (try simp only [Act.put]); (try simp only [List.setIfInBounds_toArray]); (try simp only [List.set_cons_succ]); (try simp only [List.set_cons_zero])
          refine wpAnyH_take (i := 11) (v := ?v8) rfl (by kernel_rfl) (by kernel_rfl) (by kernel_rfl) (fun _ _ _ h => h) (Or.inl ⟨by rfl, ?hy8⟩) hHeld ?rest8
          case hy8 => (intro w hSw; (try dsimp only at hSw); (try go_split_ands); go_simp; first | done | with_reducible rfl)
          (try simp only [List.getElem_toArray]); (try simp only [List.getElem_cons_succ]); (try simp only [List.getElem_cons_zero]); (try simp only [Act.put]); (try simp only [List.setIfInBounds_toArray]); (try simp only [List.set_cons_succ]); (try simp only [List.set_cons_zero])
          refine wpAnyH_ready (rs := [12]) (by kernel_rfl) (by simp) ?_
          refine AllReadyH.cons rfl (fun K' hK => ?_) AllReadyH.nil
          rw [if_pos (by rfl)]
          refine wp_store_cell (v := .slice (some ⟨gg, 0, none⟩) (rows.length + 1) cp2) 23 _ _ rfl bo 1 rfl rfl rfl rfl (S11.out.at 2 rfl) (by simp) (by kernel_rfl) ?_
          intro W12 hb hg hs hn
          have S12 := Lib.hid (S11.out.set 2 rfl hb hg hs hn)
          have HO12 := Lib.hid (HO11.out.other (S11.out.at 2 rfl) (by decide) (by decide) (by decide) hg)
          rw [← HT.out] at HO12
          clear hb hg hs hn
          refine hK.out _ _ ⟨(cells2 (S12.out.at 0 rfl)).2, HCR.out _ S12.out.bel, trivial⟩ (fun hHeld => ?_)
          clear hK K'
          (try simp only [List.getElem_toArray]); (try simp only [List.getElem_cons_succ]); (try simp only [List.getElem_cons_zero]); (try simp only [Act.put]); (try simp only [List.setIfInBounds_toArray]); (try simp only [List.set_cons_succ]); (try simp only [List.set_cons_zero])
          refine wpAnyH_done (by kernel_rfl) ?_ _
          go_wp2_with fail
          go_roundw
          case rel => exact ⟨rows.length + 1, .slice (some ⟨gg, 0, none⟩) (rows.length + 1) cp2, rows ++ [(r, .slice ao9 r.length cp9)], by go_num, hlt, S12, HO12⟩
          case measure => simp [RowKit.intOf]; omega
        · rw [if_pos (by rfl)]
          refine wp_append_rd (.tmp 19) (.tmp 24) 48 rfl W7.heap.size 3 iI _ 1 8 Try.underlying48 hI hIz hIs hIb rfl (by decide) _ 0 [] rfl hown8 W8.heap.size _ r.length (intC r) rfl ((RdX.firm _ _ _ _).keep HR0.out S8.out.bel).1 (intC_one _) (by unfold maxLen; omega) (by omega) (by omega) ?_
          intro v9 W9 ho9 hgr9
          rw [Nat.zero_add, List.nil_append] at ho9
          obtain ⟨ao9, cp9, rfl⟩ := own_form ho9
          have S9 := Lib.hid (S8.out.grown (fun P hP => by rw [List.mem_singleton] at hP; subst hP; exact H0.out) hgr9 (fun g e => ⟨Option.some.inj e ▸ S7.out.bel.size, S8.out.apart hown8 rfl g e⟩))
          have hb9 : Below W7.heap.size W7 W9 := hb8.grown hgr9 hb8.size (fun j ej => Nat.le_of_eq (Option.some.inj ej))
          refine hK.out _ _ ⟨(cells2 (S9.out.at 0 rfl)).2, HCR.out _ S9.out.bel, trivial⟩ (fun hHeld => ?_)
          clear hK K'
          (try simp only [List.getElem_toArray]); (try simp only [List.getElem_cons_succ]); (try simp only [List.getElem_cons_zero]); (try simp only [Act.put]); (try simp only [List.setIfInBounds_toArray]); (try simp only [List.set_cons_succ]); (try simp only [List.set_cons_zero])
          refine wpAnyH_ready (rs := [1, 9]) (by kernel_rfl) (by simp) ?_
          refine AllReadyH.cons rfl (fun K' hK => ?_) (AllReadyH.cons rfl (fun K' hK => ?_) AllReadyH.nil)
          · have o1 := (cells2 (S9.out.at 2 rfl)).2
            go_simp
            clear o1
            refine hK.out _ _ ⟨(cells2 (S9.out.at 0 rfl)).2, HCR.out _ S9.out.bel, trivial⟩ (fun hHeld => ?_)
            clear hK K'
            (try simp only [List.getElem_toArray]); (try simp only [List.getElem_cons_succ]); (try simp only [List.getElem_cons_zero]); (try simp only [Act.put]); (try simp only [List.setIfInBounds_toArray]); (try simp only [List.set_cons_succ]); (try simp only [List.set_cons_zero])
            refine wpAnyH_ready (rs := [9]) (by kernel_rfl) (by simp) ?_
            refine AllReadyH.cons rfl (fun K' hK => ?_) AllReadyH.nil
            go_simp
            refine fresh1 (P := fun W => K' _ W) ?_
            intro W10 hb10 hA10 hs10
            have S10 := Lib.hid (S9.out.call hb10)
            have hb710 := ret_tr hb9 hb10
            have HO10 := Lib.hid (HO7.out.below hb710)
            refine hK.out _ _ ⟨(cells2 (S10.out.at 0 rfl)).2, HCR.out _ S10.out.bel, trivial⟩ (fun hHeld => ?_)
            clear hK K'
            (try simp only [List.getElem_toArray]); (try simp only [List.getElem_cons_succ]); (try simp only [List.getElem_cons_zero]); (try simp only [Act.put]); (try simp only [List.setIfInBounds_toArray]); (try simp only [List.set_cons_succ]); (try simp only [List.set_cons_zero])
            refine wpAnyH_ready (rs := [10]) (by kernel_rfl) (by simp) ?_
            refine AllReadyH.cons rfl (fun K' hK => ?_) AllReadyH.nil
            rw [if_pos (by rfl)]
            refine wp_append_lies W10 (.tmp 18) (.tmp 26) 23 rfl w.heap.size 48 iR _ 1 24 Try.underlying23 hR hRz hRs hRb rfl (by decide) (.slice aof rows.length cpf) rows.length (rows.map (·.2)) rfl HO10.out.out ⟨W9.heap.size, 0, none⟩ 1 1 [.slice ao9 r.length cp9] rfl rfl (World.news_of_block (cs := #[.slice ao9 r.length cp9]) (t := 48) (fr := (0, 0)) hA10) (fun u hu => by rw [List.mem_singleton] at hu; subst hu; exact own_one ho9) (by decide) (by unfold maxLen; omega) (by omega) S10.out.bel.size _ rfl ?_
            intro gg cp2 W11 hown11 hgr11 hat11 hlt11
            have S11 := Lib.hid (S10.out.grown (fun P hP => by rw [List.mem_singleton] at hP; subst hP; exact H0.out) hgr11 (fun g e => ⟨(HO10.out.out.lt g e).1, S10.out.apart HO10.out.out rfl g e⟩))
            have HO11 := Lib.hid (HO7.out.push hb710 (own_mono (ownsRow_below ho9 hb10 (Nat.le_refl _)) S7.out.bel.size) (fun g e => (ho9.lt g e).1) hown11 hgr11 (by decide) (by decide))
            refine hK.out _ _ ⟨(cells2 (S11.out.at 0 rfl)).2, HCR.out _ S11.out.bel, trivial⟩ (fun hHeld => ?_)
            clear hK K'
            (try simp only [List.getElem_toArray]); (try simp only [List.getElem_cons_succ]); (try simp only [List.getElem_cons_zero]); (try simp only [Act.put]); (try simp only [List.setIfInBounds_toArray]); (try simp only [List.set_cons_succ]); (try simp only [List.set_cons_zero])
            refine wpAnyH_take (i := 11) (v := ?v9) rfl (by kernel_rfl) (by kernel_rfl) (by kernel_rfl) (fun _ _ _ h => h) (Or.inl ⟨by rfl, ?hy9⟩) hHeld ?rest9
            case hy9 => (intro w hSw; (try dsimp only at hSw); (try go_split_ands); go_simp; first | done | with_reducible rfl)
            (try simp only [List.getElem_toArray]); (try simp only [List.getElem_cons_succ]); (try simp only [List.getElem_cons_zero]); (try simp only [Act.put]); (try simp only [List.setIfInBounds_toArray]); (try simp only [List.set_cons_succ]); (try simp only [List.set_cons_zero])
            refine wpAnyH_ready (rs := [12]) (by kernel_rfl) (by simp) ?_
            refine AllReadyH.cons rfl (fun K' hK => ?_) AllReadyH.nil
            rw [if_pos (by rfl)]
            refine wp_store_cell (v := .slice (some ⟨gg, 0, none⟩) (rows.length + 1) cp2) 23 _ _ rfl bo 1 rfl rfl rfl rfl (S11.out.at 2 rfl) (by simp) (by kernel_rfl) ?_
            intro W12 hb hg hs hn
            have S12 := Lib.hid (S11.out.set 2 rfl hb hg hs hn)
            have HO12 := Lib.hid (HO11.out.other (S11.out.at 2 rfl) (by decide) (by decide) (by decide) hg)
            rw [← HT.out] at HO12
            clear hb hg hs hn
            refine hK.out _ _ ⟨(cells2 (S12.out.at 0 rfl)).2, HCR.out _ S12.out.bel, trivial⟩ (fun hHeld => ?_)
            clear hK K'
            (try simp only [List.getElem_toArray]); (try simp only [List.getElem_cons_succ]); (try simp only [List.getElem_cons_zero]); (try simp only [Act.put]); (try simp only [List.setIfInBounds_toArray]); (try simp only [List.set_cons_succ]); (try simp only [List.set_cons_zero])
            refine wpAnyH_done (by kernel_rfl) ?_ _
            go_wp2_with fail
            go_roundw
            case rel => exact ⟨rows.length + 1, .slice (some ⟨gg, 0, none⟩) (rows.length + 1) cp2, rows ++ [(r, .slice ao9 r.length cp9)], by go_num, hlt, S12, HO12⟩
            case measure => simp [RowKit.intOf]; omega
          · go_simp
            refine fresh1 (P := fun W => K' _ W) ?_
            intro W10 hb10 hA10 hs10
            have S10 := Lib.hid (S9.out.call hb10)
            have hb710 := ret_tr hb9 hb10
            have HO10 := Lib.hid (HO7.out.below hb710)
            refine hK.out _ _ ⟨(cells2 (S10.out.at 0 rfl)).2, HCR.out _ S10.out.bel, trivial⟩ (fun hHeld => ?_)
            clear hK K'
            (try simp only [List.getElem_toArray]); (try simp only [List.getElem_cons_succ]); (try simp only [List.getElem_cons_zero]); (try simp only [Act.put]); (try simp only [List.setIfInBounds_toArray]); (try simp only [List.set_cons_succ]); (try simp only [List.set_cons_zero])
            refine wpAnyH_ready (rs := [1]) (by kernel_rfl) (by simp) ?_
            refine AllReadyH.cons rfl (fun K' hK => ?_) AllReadyH.nil
            have o1 := (cells2 (S10.out.at 2 rfl)).2
            go_simp
            clear o1
            refine hK.out _ _ ⟨(cells2 (S10.out.at 0 rfl)).2, HCR.out _ S10.out.bel, trivial⟩ (fun hHeld => ?_)
            clear hK K'
            (try simp only [List.getElem_toArray]); (try simp only [List.getElem_cons_succ]); (try simp only [List.getElem_cons_zero]); (try simp only [Act.put]); (try simp only [List.setIfInBounds_toArray]); (try simp only [List.set_cons_succ]); (try simp only [List.set_cons_zero])
            refine wpAnyH_ready (rs := [10]) (by kernel_rfl) (by simp) ?_
            refine AllReadyH.cons rfl (fun K' hK => ?_) AllReadyH.nil
            rw [if_pos (by rfl)]
            refine wp_append_lies W10 (.tmp 18) (.tmp 26) 23 rfl w.heap.size 48 iR _ 1 24 Try.underlying23 hR hRz hRs hRb rfl (by decide) (.slice aof rows.length cpf) rows.length (rows.map (·.2)) rfl HO10.out.out ⟨W9.heap.size, 0, none⟩ 1 1 [.slice ao9 r.length cp9] rfl rfl (World.news_of_block (cs := #[.slice ao9 r.length cp9]) (t := 48) (fr := (0, 0)) hA10) (fun u hu => by rw [List.mem_singleton] at hu; subst hu; exact own_one ho9) (by decide) (by unfold maxLen; omega) (by omega) S10.out.bel.size _ rfl ?_
            intro gg cp2 W11 hown11 hgr11 hat11 hlt11
            have S11 := Lib.hid (S10.out.grown (fun P hP => by rw [List.mem_singleton] at hP; subst hP; exact H0.out) hgr11 (fun g e => ⟨(HO10.out.out.lt g e).1, S10.out.apart HO10.out.out rfl g e⟩))
            have HO11 := Lib.hid (HO7.out.push hb710 (own_mono (ownsRow_below ho9 hb10 (Nat.le_refl _)) S7.out.bel.size) (fun g e => (ho9.lt g e).1) hown11 hgr11 (by decide) (by decide))
            refine hK.out _ _ ⟨(cells2 (S11.out.at 0 rfl)).2, HCR.out _ S11.out.bel, trivial⟩ (fun hHeld => ?_)
            clear hK K'
            (try simp only [List.getElem_toArray]); (try simp only [List.getElem_cons_succ]); (try simp only [List.getElem_cons_zero]); (try simp only [Act.put]); (try simp only [List.setIfInBounds_toArray]); (try simp only [List.set_cons_succ]); (try simp only [List.set_cons_zero])
            refine wpAnyH_take (i := 11) (v := ?v10) rfl (by kernel_rfl) (by kernel_rfl) (by kernel_rfl) (fun _ _ _ h => h) (Or.inl ⟨by rfl, ?hy10⟩) hHeld ?rest10
            case hy10 => (intro w hSw; (try dsimp only at hSw); (try go_split_ands); go_simp; first | done | with_reducible rfl)
            (try simp only [List.getElem_toArray]); (try simp only [List.getElem_cons_succ]); (try simp only [List.getElem_cons_zero]); (try simp only [Act.put]); (try simp only [List.setIfInBounds_toArray]); (try simp only [List.set_cons_succ]); (try simp only [List.set_cons_zero])
            refine wpAnyH_ready (rs := [12]) (by kernel_rfl) (by simp) ?_
            refine AllReadyH.cons rfl (fun K' hK => ?_) AllReadyH.nil
            rw [if_pos (by rfl)]
            refine wp_store_cell (v := .slice (some ⟨gg, 0, none⟩) (rows.length + 1) cp2) 23 _ _ rfl bo 1 rfl rfl rfl rfl (S11.out.at 2 rfl) (by simp) (by kernel_rfl) ?_
            intro W12 hb hg hs hn
            have S12 := Lib.hid (S11.out.set 2 rfl hb hg hs hn)
            have HO12 := Lib.hid (HO11.out.other (S11.out.at 2 rfl) (by decide) (by decide) (by decide) hg)
            rw [← HT.out] at HO12
            clear hb hg hs hn
            refine hK.out _ _ ⟨(cells2 (S12.out.at 0 rfl)).2, HCR.out _ S12.out.bel, trivial⟩ (fun hHeld => ?_)
            clear hK K'
            (try simp only [List.getElem_toArray]); (try simp only [List.getElem_cons_succ]); (try simp only [List.getElem_cons_zero]); (try simp only [Act.put]); (try simp only [List.setIfInBounds_toArray]); (try simp only [List.set_cons_succ]); (try simp only [List.set_cons_zero])
            refine wpAnyH_done (by kernel_rfl) ?_ _
            go_wp2_with fail
            go_roundw
            case rel => exact ⟨rows.length + 1, .slice (some ⟨gg, 0, none⟩) (rows.length + 1) cp2, rows ++ [(r, .slice ao9 r.length cp9)], by go_num, hlt, S12, HO12⟩
            case measure => simp [RowKit.intOf]; omega
    · have iL : decide (k < t.fs.length) = false := decide_eq_false hlt
      have iL2 : decide ((k : Int) < (t.fs.length : Int)) = false := decide_eq_false (by omega)
      have he : t.fs.take k = t.fs := List.take_of_length_le (by omega)
      have HE := Lib.hid he
      clear hlt he
      have hvf := own_form HO.out.out
      obtain ⟨aof, cpf, rfl⟩ := hvf
      have hrows : rows.length = t.fs.length := by have := rows_len HO.out.fs; rw [this]; show (t.fs.take k).length = _; rw [HE.out]
      rw [hrows] at S6 HO
      have h_o := S6.out.at 2 rfl
      have h_r := S6.out.at 1 rfl
      go_wp2_with (first | (refine wpList_load_row rfl 33 _ rfl _ rfl 33 _ (0, 0) _ h_o Try.underlying33 rfl (by kernel_rfl) ?_) | (refine wpList_store_row rfl 33 _ _ rfl _ rfl rfl h_r rfl (by kernel_rfl) rfl ?_; intro W7 hb hg hs hn; have S7 := Lib.hid (S6.out.set 1 rfl hb hg hs hn); have HO7 := Lib.hid (HO.out.other h_r (by decide) (by decide) (by decide) hg); clear hb hg hs hn))
      refine bodyPost_ret (HRET.out _ _ _ (S7.out.at 1 rfl) rfl _ rfl) rfl ?_
      have HO8 := HO7.out
      rw [HE.out] at HO8
      exact ⟨ao3, cp3, aof, cpf, rows, rfl, HO8, S7.out.bel⟩
end Go.Proofs.Ytfcjmcenaankfaa
