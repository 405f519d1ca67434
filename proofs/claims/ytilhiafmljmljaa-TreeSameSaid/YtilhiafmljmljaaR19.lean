import Derived.Test.YtilhiafmljmljaaR18
import Derived.Maps.OwnIn
namespace Go.Proofs.Ytilhiafmljmljaa
open Go.RowKit Go.Shelf
attribute [local go_sem ↓] Go.wp_at_zero Go.wp_at_succ
attribute [local go_sem] Oper.semAt_some wide_fn wide_depth
theorem ownsRow_same {W W' : World} {base : Nat} {e : TypeId} {size n : Nat} {v : Value} {xs : List Value} (h : W.ownsRow base e size v n xs) (hb : ∀ g, v.ownBlock = some g → W'.heap[g]? = W.heap[g]?) : W'.ownsRow base e size v n xs := by
  refine ⟨h.1, h.2.imp id ?_⟩
  rintro ⟨g, cap, cur, rfl, k1, k2, k3⟩
  exact ⟨g, cap, cur, rfl, k1, (hb g rfl).trans k2, k3⟩
def CollT (bl : Nat) (tS tE : TypeId) (base size n : Nat) (xs : List Value) : Thing := fun Z V =>
  ¬ Z bl ∧ ∃ v, V.heap[bl]? = some (.cells #[v] tS (0, 0)) ∧ V.ownsRow base tE size v n xs ∧ ∀ g, v.ownBlock = some g → ¬ Z g ∧ g ≠ bl
theorem CollT.firm (bl : Nat) (tS tE : TypeId) (base size n : Nat) (xs : List Value) : Firm (CollT bl tS tE base size n xs) :=
  ⟨fun {X Y W W'} h hb hY => by
    obtain ⟨h0, v, h1, h2, h3⟩ := h
    exact ⟨fun hg => (hY _ hg).elim h0 fun hs => by have := lt_some h1; omega, v, (hb.block _ (lt_some h1)).trans h1, ownsRow_below h2 hb (Nat.le_refl _), fun g hg => ⟨fun hy => (hY g hy).elim (h3 g hg).1 fun hs => by have := (h2.lt g hg).2; omega, (h3 g hg).2⟩⟩,
   fun {X b W W'} h hX hs hg => by
    obtain ⟨h0, v, h1, h2, h3⟩ := h
    exact ⟨h0, v, (hg _ fun e => h0 (by rw [e]; exact hX)).trans h1, ownsRow_same h2 fun g hv => hg g fun e => (h3 g hv).1 (by rw [e]; exact hX), h3⟩⟩
theorem CollT.push {bl : Nat} {tS tE : TypeId} {base size n : Nat} {xs news : List Value} {Z : Nat → Prop} {V w1 : World} {o : Obj} {v v' : Value} (hZ : Old Z V) (h0 : ¬ Z bl) (h1 : V.heap[bl]? = some (.cells #[v] tS (0, 0))) (h3 : ∀ g, v.ownBlock = some g → ¬ Z g ∧ g ≠ bl)
    (ho : w1.ownsRow base tE size v' (n + 1) (xs ++ news)) (hg : (V.alloc o).grownBy w1 v.ownBlock) (hat : v'.ownBlock = v.ownBlock ∨ v'.ownBlock = some (V.alloc o).heap.size) : CollT bl tS tE base size (n + 1) (xs ++ news) Z (w1.setCell ⟨bl, 0, none⟩ v') ∧ KeepX Z V (w1.setCell ⟨bl, 0, none⟩ v') := by
  have hlt := lt_some h1
  have k1 : ∀ g, g < V.heap.size → v.ownBlock ≠ some g → w1.heap[g]? = V.heap[g]? := fun g hgs hne => (hg.block g (by simp; omega) (fun e => hne e.symm)).trans (Below.heap_alloc _ _ _ hgs)
  have hb1 : w1.heap[bl]? = some (.cells #[v] tS (0, 0)) := (k1 bl hlt fun e => (h3 bl e).2 rfl).trans h1
  have hnew : ∀ g, v'.ownBlock = some g → ¬ Z g ∧ g ≠ bl := fun g e => by
    rcases hat with hat | hat
    · exact h3 g (by rw [← hat]; exact e)
    · rw [hat] at e
      have : g = V.heap.size + 1 := by simpa using (Option.some.inj e).symm
      subst this
      exact ⟨fun hz => by have := hZ _ hz; omega, by omega⟩
  refine ⟨⟨h0, v', ?_, ?_, hnew⟩, ?_⟩
  · exact (heap_set hb1).trans (by simp)
  · exact ownsRow_same ho fun g e => Below.heap_setCell _ _ _ g (hnew g e).2
  · refine ⟨hg.os, hg.tape, hg.output, ?_, fun g hz => ?_⟩
    · have := hg.size
      simp only [World.setCell, Array.size_modify]
      rw [World.size_alloc] at this
      omega
    · exact (Below.heap_setCell _ _ _ g fun e => h0 (by dsimp only at e; rw [← e]; exact hz)).trans (k1 g (hZ g hz) fun e => (h3 g e).1 hz)
theorem places_c (ao : Option Addr) (n cap : Nat) (most room i : Int) (w : World) :
    Calls Try.prog 24 #[.agg #[.slice ao n cap, .int .i64 most, .int .i64 room], .int .i64 i] w fun e w' =>
      e = .returned (.func (.func 39) #[] #[.pointer (some ⟨w.heap.size + 1, 0, none⟩), .pointer (some ⟨w.heap.size + 1 + 1, 0, none⟩), .pointer (some ⟨w.heap.size + 1 + 3, 0, none⟩), .pointer (some ⟨w.heap.size + 1 + 2, 0, none⟩)])
      ∧ Below w.heap.size w w' ∧ HoldsF (.slice ao n cap) most room i [] 1 (w.heap.size + 1) (w.heap.size + 1 + 1) (w.heap.size + 1 + 2) (w.heap.size + 1 + 3) w' ∧ w'.heap.size = w.heap.size + 1 + 4 := by
  go_enter Try.func24, Try.ntmps24
  go_upto_region 1 with (fail)
  refine code_fresh1 ?_
  intro W1 hb1 hA1 hs1
  obtain ⟨d0, d1, d2⟩ := cells3 hA1
  go_wp2_with fail
  have hc := from_c ao n cap most room i [] 1 W1
  rw [show bs [] = (⟨#[]⟩ : ByteArray) from rfl, hs1] at hc
  refine hc.mono ?_
  rintro e W2 ⟨rfl, hb2, hF, hs2⟩
  go_wp2_with fail
  go_ret
  exact ⟨rfl, hb1.trans (hb2.mono (by omega)), hF, hs2⟩
theorem top_seq {ao : Option Addr} {cap : Nat} {ms : List NodeM} {most room : Int} {w0 : World} (hv : RdM w0.heap.size (.slice ao ms.length cap) ms w0) (hl : ms.length ≤ 1000) (hnl : ∀ n ∈ pl ms, n.names.length ≤ 10000) (hnm : ∀ n ∈ pl ms, ∀ e ∈ n.names, e.1.length ≤ 12)
    (i : Int) (b0 b1 b2 b3 : Nat) (W : World) (hB : Below w0.heap.size w0 W) (hF : HoldsF (.slice ao ms.length cap) most room i [] 1 b0 b1 b2 b3 W) :
    SeqIt Try.prog 39 #[.pointer (some ⟨b0, 0, none⟩), .pointer (some ⟨b1, 0, none⟩), .pointer (some ⟨b3, 0, none⟩), .pointer (some ⟨b2, 0, none⟩)] encL (plcT (pl ms) i) (fun g => g < w0.heap.size ∨ g ∈ [b0, b1, b2, b3]) W :=
  from1 hv hl hnl hnm (usedL (pl ms)) (Nat.le_refl _) i [] b0 b1 b2 b3 _ W (Nat.zero_le _) (fun _ hg => .inl hg) hB ⟨.inr (by simp), .inr (by simp), .inr (by simp), .inr (by simp)⟩ (by
    rw [show ((usedL (pl ms) + 1 - usedL (pl ms) : Nat) : Int) = 1 by omega]
    exact hF)
def lineC (x : LineL) : List Value := [.string (bs x.path), .int .i64 x.kind, .int .i64 x.mode, .string (bs x.data)]
def linesC (L : List LineL) : List Value := L.flatMap lineC
def intsC (L : List Int) : List Value := L.map fun x => .int .i64 x
def BoxI (bl : Nat) (t : TypeId) (v : Value) : Thing := fun Z V => ¬ Z bl ∧ V.heap[bl]? = some (.cells #[v] t (0, 0))
theorem boxI_firm (bl : Nat) (t : TypeId) (v : Value) : Firm (BoxI bl t v) :=
  ⟨fun {X Y W W'} h hb hY => ⟨fun hg => (hY _ hg).elim h.1 fun hs => by have := lt_some h.2; omega, (hb.block _ (lt_some h.2)).trans h.2⟩,
   fun {X b W W'} h hX hs hg => ⟨h.1, (hg _ fun e => h.1 (by rw [e]; exact hX)).trans h.2⟩⟩
theorem coll_lines (q : List PlcL) (x : PlcL) : linesC ((q ++ [x]).map (·.line)) = linesC (q.map (·.line)) ++ lineC x.line := by simp [linesC]
theorem coll_ints (q : List PlcL) (x : PlcL) : intsC ((q ++ [x]).map (·.ino)) = intsC (q.map (·.ino)) ++ [.int .i64 x.ino] := by simp [intsC]
theorem linesC_app (a b : List LineL) : linesC (a ++ b) = linesC a ++ linesC b := by simp [linesC]
theorem infoLine : (Try.prog.info? 56).map (fun i => (i.zero, i.size, i.bytes)) = some (some (.agg #[.string ⟨#[]⟩, .int .i64 0, .int .i64 0, .string ⟨#[]⟩]), 4, 48) := by kernel_rfl
theorem infoInt14 : (Try.prog.info? 3).map (fun i => (i.zero, i.size, i.bytes)) = some (some (.int .i64 0), 1, 8) := by kernel_rfl
theorem Old.size_le {Z : Nat → Prop} {V : World} {n : Nat} (h : Old Z V) (hn : ∀ g, g < n → Z g) : n ≤ V.heap.size := by
  rcases Nat.eq_zero_or_pos n with h0 | h0
  · omega
  · have := h _ (hn (n - 1) (by omega)); omega
set_option maxRecDepth 100000 in
set_option maxHeartbeats 4000000 in
theorem list_c {ao : Option Addr} {cap : Nat} {ms : List NodeM} (most room i : Int) (w : World) (hv : RdM w.heap.size (.slice ao ms.length cap) ms w) (hl : ms.length ≤ 1000) (hnl : ∀ n ∈ pl ms, n.names.length ≤ 10000) (hnm : ∀ n ∈ pl ms, ∀ e ∈ n.names, e.1.length ≤ 12) (hll : (plcT (pl ms) i).length ≤ 9999) :
    Calls Try.prog 9 #[.agg #[.slice ao ms.length cap, .int .i64 most, .int .i64 room], .int .i64 i] w fun e w' => ∃ v, e = .returned v ∧ w'.ownsRow w.heap.size 56 4 v (plcT (pl ms) i).length (linesC ((plcT (pl ms) i).map (·.line))) ∧ Below w.heap.size w w' := by
  refine (callsIn_wide (n := 0)).1 ?_
  refine calls_end Try.func9 rfl ?_
  simp only [Try.ntmps9, List.size_toArray, List.length_cons, List.length_nil, Nat.reduceAdd, Nat.reduceSub, Array.replicate_succ, Array.replicate_zero, List.push_toArray, List.append_toArray, List.nil_append, List.cons_append]
  obtain ⟨iE, hE, hEz, hEs, hEb⟩ := info_parts infoLine
  go_upto_region 2 with (fail)
  refine code_fresh2 ?_
  intro W2 hb2 hA2 hC2 hs2
  obtain ⟨d0, d1, d2⟩ := cells3 hA2
  go_wp2_with fail
  refine (places_c ao ms.length cap most room i W2).mono ?_
  rintro e W3 ⟨rfl, hb3, hF3, hs3⟩
  have hC3 := (hb3.block _ (by omega)).trans hC2
  have hB3 : Below w.heap.size w W3 := hb2.trans (hb3.mono (by omega))
  rw [hs2] at hF3 hs3 ⊢
  clear d0 d1 d2 hb2 hA2 hC2 hb3
  go_wp2_with fail
  have hseq := top_seq hv hl hnl hnm i _ _ _ _ W3 hB3 hF3
  have hY : Old (fun g => g < w.heap.size ∨ g ∈ [w.heap.size + 2 + 1, w.heap.size + 2 + 1 + 1, w.heap.size + 2 + 1 + 2, w.heap.size + 2 + 1 + 3]) W3 := fun g hg => by
    rcases hg with hg | hg
    · omega
    · simp only [List.mem_cons, List.not_mem_nil, or_false] at hg
      omega
  have nY : ¬ (w.heap.size + 1 < w.heap.size ∨ w.heap.size + 1 ∈ [w.heap.size + 2 + 1, w.heap.size + 2 + 1 + 1, w.heap.size + 2 + 1 + 2, w.heap.size + 2 + 1 + 3]) := fun hg => by
    rcases hg with hg | hg
    · omega
    · simp only [List.mem_cons, List.not_mem_nil, or_false] at hg
      omega
  refine range_it (Y := fun g => g < w.heap.size ∨ g ∈ [w.heap.size + 2 + 1, w.heap.size + 2 + 1 + 1, w.heap.size + 2 + 1 + 2, w.heap.size + 2 + 1 + 3]) rfl (enters_of Try.func39 (by kernel_rfl) rfl) (fun _ => rfl) hseq (KeepX.refl _ _) (fun _ hg => hg) hY
    (fun q => CollT (w.heap.size + 1) 27 56 w.heap.size 4 q.length (linesC (q.map (·.line)))) (fun q => (CollT.firm _ _ _ _ _ _ _)) ⟨nY, _, hC3, World.ownsRow_nil _ _ _ _, fun g e => (by cases e)⟩ (fun x a' Z V => ∃ bp, V.heap[bp]? = some (.cells #[.int .i64 x.ino, .int .i64 x.level, .string (bs x.line.path), .int .i64 x.line.kind, .int .i64 x.line.mode, .string (bs x.line.data)] 66 (0, 0)) ∧ ¬ Z bp ∧ a' = { tmps := #[.agg #[.slice ao ms.length cap, .int .i64 most, .int .i64 room], .int .i64 i, .pointer (some ⟨w.heap.size, 0, none⟩), undef, .slice none 0 0, .pointer (some ⟨w.heap.size + 1, 0, none⟩), .pointer (some ⟨bp, 0, none⟩), .agg #[.slice ao ms.length cap, .int .i64 most, .int .i64 room], .int .i64 i, .func (.func 39) #[] #[.pointer (some ⟨w.heap.size + 2 + 1, 0, none⟩), .pointer (some ⟨w.heap.size + 2 + 1 + 1, 0, none⟩), .pointer (some ⟨w.heap.size + 2 + 1 + 3, 0, none⟩), .pointer (some ⟨w.heap.size + 2 + 1 + 2, 0, none⟩)], plcV x, undef, undef, undef, undef, undef, undef], defers := [] }) (fun x a' => boxT_firm (.cells #[.int .i64 x.ino, .int .i64 x.level, .string (bs x.line.path), .int .i64 x.line.kind, .int .i64 x.line.mode, .string (bs x.line.data)] 66 (0, 0)) (fun bp => a' = { tmps := #[.agg #[.slice ao ms.length cap, .int .i64 most, .int .i64 room], .int .i64 i, .pointer (some ⟨w.heap.size, 0, none⟩), undef, .slice none 0 0, .pointer (some ⟨w.heap.size + 1, 0, none⟩), .pointer (some ⟨bp, 0, none⟩), .agg #[.slice ao ms.length cap, .int .i64 most, .int .i64 room], .int .i64 i, .func (.func 39) #[] #[.pointer (some ⟨w.heap.size + 2 + 1, 0, none⟩), .pointer (some ⟨w.heap.size + 2 + 1 + 1, 0, none⟩), .pointer (some ⟨w.heap.size + 2 + 1 + 3, 0, none⟩), .pointer (some ⟨w.heap.size + 2 + 1 + 2, 0, none⟩)], plcV x, undef, undef, undef, undef, undef, undef], defers := [] })) ?assign ?body ?done
  case assign =>
    intro l2 m2 q x Z V K hYZ hZo hi hK
    dsimp only [encL]
    gi_wp2
    refine fresh1 (P := fun V' => K _ V') ?_
    intro V' hb hA hs
    exact hK _ _ (KeepX.of hb hZo) ((CollT.firm _ _ _ _ _ _ _).keep hi hb) ⟨V.heap.size, hA, fun h => Nat.lt_irrefl _ (hZo _ h), rfl⟩
  case body =>
    rintro l2 m2 q x Z a' V hYZ hZo ⟨nZ, v, hbl, hrow, hav⟩ ⟨bp, hbp, nbp, rfl⟩ hlen
    obtain ⟨p0, p1, p2, p3, p4, p5⟩ := cells6 hbp
    have cl := Lib.cell_of_heap hbl 0
    have hbase : w.heap.size ≤ V.heap.size := by have := hZo.size_le (fun g hg => hYZ g (.inl hg)); omega
    have hql : q.length ≤ 9999 := by omega
    clear hbp
    gi_wp2_with (gi_at_builtin; refine Hid.out ?_)
    refine Lib.hid ?_
    refine wpListIn_append_own_at _ rfl (.tmp 11) (.tmp 14) 27 rfl w.heap.size 56 iE _ 4 48 Try.underlying27 hE hEz hEs hEb rfl (by decide) v q.length _ rfl (World.ownsRow.alloc hrow _) ⟨V.heap.size, 0, none⟩ 1 1 (lineC x.line) rfl rfl (World.news_of_block (cs := #[.string (bs x.line.path), .int .i64 x.line.kind, .int .i64 x.line.mode, .string (bs x.line.data)]) (heap_alloc_new _ _)) (fun u hu => by simp only [lineC, List.mem_cons, List.not_mem_nil, or_false] at hu; rcases hu with rfl | rfl | rfl | rfl <;> rfl) (by unfold maxLen; omega) (by omega) (by rw [World.size_alloc]; omega) ?_
    intro v' w1 ho hgr _ hat
    obtain ⟨g', cap', rfl⟩ := ownsRow_succ ho
    have hP := CollT.push hZo nZ hbl hav ho hgr hat
    have cl1 := Lib.cell_of_heap ((hgr.block _ (by have := lt_some hbl; simp; omega) (fun e => (hav _ e.symm).2 rfl)).trans ((Below.heap_alloc _ _ _ (lt_some hbl)).trans hbl)) 0
    have fr1 := Lib.frozen_of_heap ((hgr.block _ (by have := lt_some hbl; simp; omega) (fun e => (hav _ e.symm).2 rfl)).trans ((Below.heap_alloc _ _ _ (lt_some hbl)).trans hbl)) 0
    gi_wp2
    exact ⟨by rw [List.length_append, coll_lines]; exact hP.1, hP.2⟩
  case done =>
    intro D Z V hYZ hZD hDs hZo hi hkY hD
    obtain ⟨nZ, v, hbl, hrow, hav⟩ := hi
    have cl := Lib.cell_of_heap hbl 0
    have hBV : Below w.heap.size w V := hB3.trans (hkY.below fun _ hg => .inl hg)
    go_wp2_with fail
    refine ⟨by simp, .inl ⟨_, _, rfl, run_takeDeferred hD, ?_⟩⟩
    refine ⟨v, ?_, v, rfl, ?_, hBV.trans (KeepX.put (X := fun g => g < w.heap.size) (by omega) _ |>.below fun _ hg => hg)⟩
    · simp [results, Try.results9, go_sem]
    · exact ownsRow_same hrow fun g e => World.putObj_heap_other fun eD => (hav g e).1 (by rw [eD]; exact hZD)
set_option maxRecDepth 100000 in
set_option maxHeartbeats 4000000 in
theorem inside_c {ao : Option Addr} {cap : Nat} {ms : List NodeM} (most room i : Int) (w : World) (hv : RdM w.heap.size (.slice ao ms.length cap) ms w) (hl : ms.length ≤ 1000) (hnl : ∀ n ∈ pl ms, n.names.length ≤ 10000) (hnm : ∀ n ∈ pl ms, ∀ e ∈ n.names, e.1.length ≤ 12) (hll : (plcT (pl ms) i).length ≤ 9999) :
    Calls Try.prog 15 #[.agg #[.slice ao ms.length cap, .int .i64 most, .int .i64 room], .int .i64 i] w fun e w' => ∃ v, e = .returned v ∧ w'.ownsRow w.heap.size 3 1 v (plcT (pl ms) i).length (intsC ((plcT (pl ms) i).map (·.ino))) ∧ Below w.heap.size w w' := by
  refine (callsIn_wide (n := 0)).1 ?_
  refine calls_end Try.func15 rfl ?_
  simp only [Try.ntmps15, List.size_toArray, List.length_cons, List.length_nil, Nat.reduceAdd, Nat.reduceSub, Array.replicate_succ, Array.replicate_zero, List.push_toArray, List.append_toArray, List.nil_append, List.cons_append]
  obtain ⟨iE, hE, hEz, hEs, hEb⟩ := info_parts infoInt14
  go_upto_region 2 with (fail)
  refine code_fresh2 ?_
  intro W2 hb2 hA2 hC2 hs2
  obtain ⟨d0, d1, d2⟩ := cells3 hA2
  go_wp2_with fail
  refine (places_c ao ms.length cap most room i W2).mono ?_
  rintro e W3 ⟨rfl, hb3, hF3, hs3⟩
  have hC3 := (hb3.block _ (by omega)).trans hC2
  have hB3 : Below w.heap.size w W3 := hb2.trans (hb3.mono (by omega))
  rw [hs2] at hF3 hs3 ⊢
  clear d0 d1 d2 hb2 hA2 hC2 hb3
  go_wp2_with fail
  have hseq := top_seq hv hl hnl hnm i _ _ _ _ W3 hB3 hF3
  have hY : Old (fun g => g < w.heap.size ∨ g ∈ [w.heap.size + 2 + 1, w.heap.size + 2 + 1 + 1, w.heap.size + 2 + 1 + 2, w.heap.size + 2 + 1 + 3]) W3 := fun g hg => by
    rcases hg with hg | hg
    · omega
    · simp only [List.mem_cons, List.not_mem_nil, or_false] at hg
      omega
  have nY : ¬ (w.heap.size + 1 < w.heap.size ∨ w.heap.size + 1 ∈ [w.heap.size + 2 + 1, w.heap.size + 2 + 1 + 1, w.heap.size + 2 + 1 + 2, w.heap.size + 2 + 1 + 3]) := fun hg => by
    rcases hg with hg | hg
    · omega
    · simp only [List.mem_cons, List.not_mem_nil, or_false] at hg
      omega
  refine range_it (Y := fun g => g < w.heap.size ∨ g ∈ [w.heap.size + 2 + 1, w.heap.size + 2 + 1 + 1, w.heap.size + 2 + 1 + 2, w.heap.size + 2 + 1 + 3]) rfl (enters_of Try.func39 (by kernel_rfl) rfl) (fun _ => rfl) hseq (KeepX.refl _ _) (fun _ hg => hg) hY
    (fun q => CollT (w.heap.size + 1) 38 3 w.heap.size 1 q.length (intsC (q.map (·.ino)))) (fun q => (CollT.firm _ _ _ _ _ _ _)) ⟨nY, _, hC3, World.ownsRow_nil _ _ _ _, fun g e => (by cases e)⟩ (fun x a' Z V => ∃ bp, V.heap[bp]? = some (.cells #[.int .i64 x.ino, .int .i64 x.level, .string (bs x.line.path), .int .i64 x.line.kind, .int .i64 x.line.mode, .string (bs x.line.data)] 66 (0, 0)) ∧ ¬ Z bp ∧ a' = { tmps := #[.agg #[.slice ao ms.length cap, .int .i64 most, .int .i64 room], .int .i64 i, .pointer (some ⟨w.heap.size, 0, none⟩), undef, .slice none 0 0, .pointer (some ⟨w.heap.size + 1, 0, none⟩), .pointer (some ⟨bp, 0, none⟩), .agg #[.slice ao ms.length cap, .int .i64 most, .int .i64 room], .int .i64 i, .func (.func 39) #[] #[.pointer (some ⟨w.heap.size + 2 + 1, 0, none⟩), .pointer (some ⟨w.heap.size + 2 + 1 + 1, 0, none⟩), .pointer (some ⟨w.heap.size + 2 + 1 + 3, 0, none⟩), .pointer (some ⟨w.heap.size + 2 + 1 + 2, 0, none⟩)], plcV x, undef, undef, undef, undef, undef, undef], defers := [] }) (fun x a' => boxT_firm (.cells #[.int .i64 x.ino, .int .i64 x.level, .string (bs x.line.path), .int .i64 x.line.kind, .int .i64 x.line.mode, .string (bs x.line.data)] 66 (0, 0)) (fun bp => a' = { tmps := #[.agg #[.slice ao ms.length cap, .int .i64 most, .int .i64 room], .int .i64 i, .pointer (some ⟨w.heap.size, 0, none⟩), undef, .slice none 0 0, .pointer (some ⟨w.heap.size + 1, 0, none⟩), .pointer (some ⟨bp, 0, none⟩), .agg #[.slice ao ms.length cap, .int .i64 most, .int .i64 room], .int .i64 i, .func (.func 39) #[] #[.pointer (some ⟨w.heap.size + 2 + 1, 0, none⟩), .pointer (some ⟨w.heap.size + 2 + 1 + 1, 0, none⟩), .pointer (some ⟨w.heap.size + 2 + 1 + 3, 0, none⟩), .pointer (some ⟨w.heap.size + 2 + 1 + 2, 0, none⟩)], plcV x, undef, undef, undef, undef, undef, undef], defers := [] })) ?assign ?body ?done
  case assign =>
    intro l2 m2 q x Z V K hYZ hZo hi hK
    dsimp only [encL]
    gi_wp2
    refine fresh1 (P := fun V' => K _ V') ?_
    intro V' hb hA hs
    exact hK _ _ (KeepX.of hb hZo) ((CollT.firm _ _ _ _ _ _ _).keep hi hb) ⟨V.heap.size, hA, fun h => Nat.lt_irrefl _ (hZo _ h), rfl⟩
  case body =>
    rintro l2 m2 q x Z a' V hYZ hZo ⟨nZ, v, hbl, hrow, hav⟩ ⟨bp, hbp, nbp, rfl⟩ hlen
    obtain ⟨p0, p1, p2, p3, p4, p5⟩ := cells6 hbp
    have cl := Lib.cell_of_heap hbl 0
    have hbase : w.heap.size ≤ V.heap.size := by have := hZo.size_le (fun g hg => hYZ g (.inl hg)); omega
    have hql : q.length ≤ 9999 := by omega
    clear hbp
    gi_wp2_with (gi_at_builtin; refine Hid.out ?_)
    refine Lib.hid ?_
    refine wpListIn_append_own_at _ rfl (.tmp 11) (.tmp 14) 38 rfl w.heap.size 3 iE _ 1 8 Try.underlying38 hE hEz hEs hEb rfl (by decide) v q.length _ rfl (World.ownsRow.alloc hrow _) ⟨V.heap.size, 0, none⟩ 1 1 [.int .i64 x.ino] rfl rfl (World.news_of_block (cs := #[.int .i64 x.ino]) (heap_alloc_new _ _)) (fun u hu => by rw [List.mem_singleton] at hu; subst hu; rfl) (by unfold maxLen; omega) (by omega) (by rw [World.size_alloc]; omega) ?_
    intro v' w1 ho hgr _ hat
    obtain ⟨g', cap', rfl⟩ := ownsRow_succ ho
    have hP := CollT.push hZo nZ hbl hav ho hgr hat
    have cl1 := Lib.cell_of_heap ((hgr.block _ (by have := lt_some hbl; simp; omega) (fun e => (hav _ e.symm).2 rfl)).trans ((Below.heap_alloc _ _ _ (lt_some hbl)).trans hbl)) 0
    have fr1 := Lib.frozen_of_heap ((hgr.block _ (by have := lt_some hbl; simp; omega) (fun e => (hav _ e.symm).2 rfl)).trans ((Below.heap_alloc _ _ _ (lt_some hbl)).trans hbl)) 0
    gi_wp2
    exact ⟨by rw [List.length_append, coll_ints]; exact hP.1, hP.2⟩
  case done =>
    intro D Z V hYZ hZD hDs hZo hi hkY hD
    obtain ⟨nZ, v, hbl, hrow, hav⟩ := hi
    have cl := Lib.cell_of_heap hbl 0
    have hBV : Below w.heap.size w V := hB3.trans (hkY.below fun _ hg => .inl hg)
    go_wp2_with fail
    refine ⟨by simp, .inl ⟨_, _, rfl, run_takeDeferred hD, ?_⟩⟩
    refine ⟨v, ?_, v, rfl, ?_, hBV.trans (KeepX.put (X := fun g => g < w.heap.size) (by omega) _ |>.below fun _ hg => hg)⟩
    · simp [results, Try.results15, go_sem]
    · exact ownsRow_same hrow fun g e => World.putObj_heap_other fun eD => (hav g e).1 (by rw [eD]; exact hZD)
set_option maxRecDepth 100000 in
set_option maxHeartbeats 4000000 in
theorem depth_c {ao : Option Addr} {cap : Nat} {ms : List NodeM} (most room i : Int) (w : World) (hv : RdM w.heap.size (.slice ao ms.length cap) ms w) (hl : ms.length ≤ 1000) (hnl : ∀ n ∈ pl ms, n.names.length ≤ 10000) (hnm : ∀ n ∈ pl ms, ∀ e ∈ n.names, e.1.length ≤ 12) :
    Calls Try.prog 17 #[.agg #[.slice ao ms.length cap, .int .i64 most, .int .i64 room], .int .i64 i] w fun e w' => e = .returned (.int .i64 (deepF 0 (plcT (pl ms) i))) ∧ Below w.heap.size w w' := by
  refine (callsIn_wide (n := 0)).1 ?_
  refine calls_end Try.func17 rfl ?_
  simp only [Try.ntmps17, List.size_toArray, List.length_cons, List.length_nil, Nat.reduceAdd, Nat.reduceSub, Array.replicate_succ, Array.replicate_zero, List.push_toArray, List.append_toArray, List.nil_append, List.cons_append]
  go_upto_region 2 with (fail)
  refine code_fresh2 ?_
  intro W2 hb2 hA2 hC2 hs2
  obtain ⟨d0, d1, d2⟩ := cells3 hA2
  go_wp2_with fail
  refine (places_c ao ms.length cap most room i W2).mono ?_
  rintro e W3 ⟨rfl, hb3, hF3, hs3⟩
  have hC3 := (hb3.block _ (by omega)).trans hC2
  have hB3 : Below w.heap.size w W3 := hb2.trans (hb3.mono (by omega))
  rw [hs2] at hF3 hs3 ⊢
  clear d0 d1 d2 hb2 hA2 hC2 hb3
  go_wp2_with fail
  have hseq := top_seq hv hl hnl hnm i _ _ _ _ W3 hB3 hF3
  have hY : Old (fun g => g < w.heap.size ∨ g ∈ [w.heap.size + 2 + 1, w.heap.size + 2 + 1 + 1, w.heap.size + 2 + 1 + 2, w.heap.size + 2 + 1 + 3]) W3 := fun g hg => by
    rcases hg with hg | hg
    · omega
    · simp only [List.mem_cons, List.not_mem_nil, or_false] at hg
      omega
  have nY : ¬ (w.heap.size + 1 < w.heap.size ∨ w.heap.size + 1 ∈ [w.heap.size + 2 + 1, w.heap.size + 2 + 1 + 1, w.heap.size + 2 + 1 + 2, w.heap.size + 2 + 1 + 3]) := fun hg => by
    rcases hg with hg | hg
    · omega
    · simp only [List.mem_cons, List.not_mem_nil, or_false] at hg
      omega
  refine range_it (Y := fun g => g < w.heap.size ∨ g ∈ [w.heap.size + 2 + 1, w.heap.size + 2 + 1 + 1, w.heap.size + 2 + 1 + 2, w.heap.size + 2 + 1 + 3]) rfl (enters_of Try.func39 (by kernel_rfl) rfl) (fun _ => rfl) hseq (KeepX.refl _ _) (fun _ hg => hg) hY
    (fun q => BoxI (w.heap.size + 1) 3 (.int .i64 (deepF 0 q))) (fun q => (boxI_firm _ _ _)) ⟨nY, hC3⟩ (fun x a' Z V => ∃ bp, V.heap[bp]? = some (.cells #[.int .i64 x.ino, .int .i64 x.level, .string (bs x.line.path), .int .i64 x.line.kind, .int .i64 x.line.mode, .string (bs x.line.data)] 66 (0, 0)) ∧ ¬ Z bp ∧ a' = { tmps := #[.agg #[.slice ao ms.length cap, .int .i64 most, .int .i64 room], .int .i64 i, .pointer (some ⟨w.heap.size, 0, none⟩), undef, .int .i64 0, .pointer (some ⟨w.heap.size + 1, 0, none⟩), .pointer (some ⟨bp, 0, none⟩), .agg #[.slice ao ms.length cap, .int .i64 most, .int .i64 room], .int .i64 i, .func (.func 39) #[] #[.pointer (some ⟨w.heap.size + 2 + 1, 0, none⟩), .pointer (some ⟨w.heap.size + 2 + 1 + 1, 0, none⟩), .pointer (some ⟨w.heap.size + 2 + 1 + 3, 0, none⟩), .pointer (some ⟨w.heap.size + 2 + 1 + 2, 0, none⟩)], plcV x, undef, undef, undef, undef, undef], defers := [] }) (fun x a' => boxT_firm (.cells #[.int .i64 x.ino, .int .i64 x.level, .string (bs x.line.path), .int .i64 x.line.kind, .int .i64 x.line.mode, .string (bs x.line.data)] 66 (0, 0)) (fun bp => a' = { tmps := #[.agg #[.slice ao ms.length cap, .int .i64 most, .int .i64 room], .int .i64 i, .pointer (some ⟨w.heap.size, 0, none⟩), undef, .int .i64 0, .pointer (some ⟨w.heap.size + 1, 0, none⟩), .pointer (some ⟨bp, 0, none⟩), .agg #[.slice ao ms.length cap, .int .i64 most, .int .i64 room], .int .i64 i, .func (.func 39) #[] #[.pointer (some ⟨w.heap.size + 2 + 1, 0, none⟩), .pointer (some ⟨w.heap.size + 2 + 1 + 1, 0, none⟩), .pointer (some ⟨w.heap.size + 2 + 1 + 3, 0, none⟩), .pointer (some ⟨w.heap.size + 2 + 1 + 2, 0, none⟩)], plcV x, undef, undef, undef, undef, undef], defers := [] })) ?assign ?body ?done
  case assign =>
    intro l2 m2 q x Z V K hYZ hZo hi hK
    dsimp only [encL]
    gi_wp2
    refine fresh1 (P := fun V' => K _ V') ?_
    intro V' hb hA hs
    exact hK _ _ (KeepX.of hb hZo) ((boxI_firm _ _ _).keep hi hb) ⟨V.heap.size, hA, fun h => Nat.lt_irrefl _ (hZo _ h), rfl⟩
  case body =>
    rintro l2 m2 q x Z a' V hYZ hZo ⟨nZ, hbl⟩ ⟨bp, hbp, nbp, rfl⟩ hlen
    obtain ⟨p0, p1, p2, p3, p4, p5⟩ := cells6 hbp
    have cl := Lib.cell_of_heap hbl 0
    have fr := Lib.frozen_of_heap hbl 0
    have hdq : deepF 0 (q ++ [x]) = max (deepF 0 q) x.level := by rw [deep_app]; rfl
    have HD := Lib.hid hdq
    clear hbp hdq
    gi_wp2
    rw [show max ((deepF 0 q : Nat) : Int) ((x.level : Nat) : Int) = ((deepF 0 (q ++ [x]) : Nat) : Int) by rw [HD.out]; omega]
    exact ⟨⟨nZ, (heap_set hbl).trans (by simp)⟩, KeepX.one nZ ((Below.refl _ V).setCell (p := ⟨w.heap.size + 1, 0, none⟩) (Nat.le_refl _) _) fun g hg => Below.heap_setCell _ _ _ g hg⟩
  case done =>
    intro D Z V hYZ hZD hDs hZo hi hkY hD
    obtain ⟨nZ, hbl⟩ := hi
    have cl := Lib.cell_of_heap hbl 0
    have hBV : Below w.heap.size w V := hB3.trans (hkY.below fun _ hg => .inl hg)
    go_wp2_with fail
    refine ⟨by simp, .inl ⟨_, _, rfl, run_takeDeferred hD, ?_⟩⟩
    refine ⟨.int .i64 (deepF 0 (plcT (pl ms) i)), ?_, rfl, hBV.trans (KeepX.put (X := fun g => g < w.heap.size) (by omega) _ |>.below fun _ hg => hg)⟩
    simp [results, Try.results17, go_sem]
end Go.Proofs.Ytilhiafmljmljaa
