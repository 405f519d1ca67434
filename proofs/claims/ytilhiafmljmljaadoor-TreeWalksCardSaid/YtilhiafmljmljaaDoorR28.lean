import Derived.Test.YtilhiafmljmljaaDoorR27
import Derived.Maps.OwnIn
import Derived.Test.YtilhiafmljmljaaDoorR26
import Derived.Test.YtilhiafmljmljaaDoorR22
import Derived.Test.YtilhiafmljmljaaDoorR13
namespace Go.Proofs.YtilhiafmljmljaaDoor
open Go.RowKit Go.Shelf
attribute [local go_sem ↓] Go.wp_at_zero Go.wp_at_succ
attribute [local go_sem] Oper.semAt_some wide_fn wide_depth
theorem ownsRow_same {W W' : World} {base : Nat} {e : TypeId} {size n : Nat} {v : Value} {xs : List Value} (h : W.ownsRow base e size v n xs) (hb : ∀ g, v.ownBlock = some g → W'.heap[g]? = W.heap[g]?) : W'.ownsRow base e size v n xs := by
  refine ⟨h.1, h.2.imp id ?_⟩
  rintro ⟨g, cap, cur, rfl, k1, k2, k3⟩
  exact ⟨g, cap, cur, rfl, k1, (hb g rfl).trans k2, k3⟩
def CollT (bl : Nat) (tS tE : TypeId) (base size n : Nat) (xs : List Value) : Thing := fun Z V =>
  ¬ Z bl ∧ ∃ v, V.heap[bl]? = some (.cells #[v] tS (0, 0)) ∧ V.ownsRow base tE size v n xs ∧ ∀ g, v.ownBlock = some g → ¬ Z g ∧ g ≠ bl
theorem CollT.firm (bl : Nat) (tS tE : TypeId) (base size n : Nat) (xs : List Value) : Firm (CollT bl tS tE base size n xs) :=
  ⟨fun {X Y W W'} h hb hY => by
    obtain ⟨h0, v, h1, h2, h3⟩ := h
    exact ⟨fun hg => (hY _ hg).elim h0 fun hs => by have := lt_some h1; omega, v, (hb.block _ (lt_some h1)).trans h1, ownsRow_below h2 hb (Nat.le_refl _), fun g hg => ⟨fun hy => (hY g hy).elim (h3 g hg).1 fun hs => by have := (h2.lt g hg).2; omega, (h3 g hg).2⟩⟩,
   fun {X b W W'} h hX hs hg => by
    obtain ⟨h0, v, h1, h2, h3⟩ := h
    exact ⟨h0, v, (hg _ fun e => h0 (by rw [e]; exact hX)).trans h1, ownsRow_same h2 fun g hv => hg g fun e => (h3 g hv).1 (by rw [e]; exact hX), h3⟩⟩
theorem CollT.push {bl : Nat} {tS tE : TypeId} {base size n : Nat} {xs news : List Value} {Z : Nat → Prop} {V w1 : World} {o : Obj} {v v' : Value} (hZ : Old Z V) (h0 : ¬ Z bl) (h1 : V.heap[bl]? = some (.cells #[v] tS (0, 0))) (h3 : ∀ g, v.ownBlock = some g → ¬ Z g ∧ g ≠ bl)
    (ho : w1.ownsRow base tE size v' (n + 1) (xs ++ news)) (hg : (V.alloc o).grownBy w1 v.ownBlock) (hat : v'.ownBlock = v.ownBlock ∨ v'.ownBlock = some (V.alloc o).heap.size) : CollT bl tS tE base size (n + 1) (xs ++ news) Z (w1.setCell ⟨bl, 0, none⟩ v') ∧ KeepX Z V (w1.setCell ⟨bl, 0, none⟩ v') := by
  have hlt := lt_some h1
  have k1 : ∀ g, g < V.heap.size → v.ownBlock ≠ some g → w1.heap[g]? = V.heap[g]? := fun g hgs hne => (hg.block g (by simp; omega) (fun e => hne e.symm)).trans (Below.heap_alloc _ _ _ hgs)
  have hb1 : w1.heap[bl]? = some (.cells #[v] tS (0, 0)) := (k1 bl hlt fun e => (h3 bl e).2 rfl).trans h1
  have hnew : ∀ g, v'.ownBlock = some g → ¬ Z g ∧ g ≠ bl := fun g e => by
    rcases hat with hat | hat
    · exact h3 g (by rw [← hat]; exact e)
    · rw [hat] at e
      have : g = V.heap.size + 1 := by simpa using (Option.some.inj e).symm
      subst this
      exact ⟨fun hz => by have := hZ _ hz; omega, by omega⟩
  refine ⟨⟨h0, v', ?_, ?_, hnew⟩, ?_⟩
  · exact (heap_set hb1).trans (by simp)
  · exact ownsRow_same ho fun g e => Below.heap_setCell _ _ _ g (hnew g e).2
  · refine ⟨hg.os, hg.tape, hg.output, ?_, fun g hz => ?_⟩
    · have := hg.size
      simp only [World.setCell, Array.size_modify]
      rw [World.size_alloc] at this
      omega
    · exact (Below.heap_setCell _ _ _ g fun e => h0 (by dsimp only at e; rw [← e]; exact hz)).trans (k1 g (hZ g hz) fun e => (h3 g e).1 hz)
theorem places_c (ao : Option Addr) (n cap : Nat) (most room i : Int) (w : World) :
    Calls Tryd.prog 14 #[.agg #[.slice ao n cap, .int .i64 most, .int .i64 room], .int .i64 i] w fun e w' =>
      e = .returned (.func (.func 36) #[] #[.pointer (some ⟨w.heap.size + 1, 0, none⟩), .pointer (some ⟨w.heap.size + 1 + 1, 0, none⟩), .pointer (some ⟨w.heap.size + 1 + 3, 0, none⟩), .pointer (some ⟨w.heap.size + 1 + 2, 0, none⟩)])
      ∧ Below w.heap.size w w' ∧ HoldsF (.slice ao n cap) most room i [] 1 (w.heap.size + 1) (w.heap.size + 1 + 1) (w.heap.size + 1 + 2) (w.heap.size + 1 + 3) w' ∧ w'.heap.size = w.heap.size + 1 + 4 := by
  go_enter Tryd.func14, Tryd.ntmps14
  go_upto_region 1 with (fail)
  refine code_fresh1 ?_
  intro W1 hb1 hA1 hs1
  obtain ⟨d0, d1, d2⟩ := cells3 hA1
  go_wp2_with fail
  have hc := from_c ao n cap most room i [] 1 W1
  rw [show bs [] = (⟨#[]⟩ : ByteArray) from rfl, hs1] at hc
  refine hc.mono ?_
  rintro e W2 ⟨rfl, hb2, hF, hs2⟩
  go_wp2_with fail
  go_ret
  exact ⟨rfl, hb1.trans (hb2.mono (by omega)), hF, hs2⟩
theorem top_seq {ao : Option Addr} {cap : Nat} {ms : List NodeM} {most room : Int} {w0 : World} (hv : RdM w0.heap.size (.slice ao ms.length cap) ms w0) (hl : ms.length ≤ 1000) (hnl : ∀ n ∈ pl ms, n.names.length ≤ 10000) (hnm : ∀ n ∈ pl ms, ∀ e ∈ n.names, e.1.length ≤ 12)
    (i : Int) (b0 b1 b2 b3 : Nat) (W : World) (hB : Below w0.heap.size w0 W) (hF : HoldsF (.slice ao ms.length cap) most room i [] 1 b0 b1 b2 b3 W) :
    SeqIt Tryd.prog 36 #[.pointer (some ⟨b0, 0, none⟩), .pointer (some ⟨b1, 0, none⟩), .pointer (some ⟨b3, 0, none⟩), .pointer (some ⟨b2, 0, none⟩)] encL (plcT (pl ms) i) (fun g => g < w0.heap.size ∨ g ∈ [b0, b1, b2, b3]) W :=
  from1 hv hl hnl hnm (usedL (pl ms)) (Nat.le_refl _) i [] b0 b1 b2 b3 _ W (Nat.zero_le _) (fun _ hg => .inl hg) hB ⟨.inr (by simp), .inr (by simp), .inr (by simp), .inr (by simp)⟩ (by
    rw [show ((usedL (pl ms) + 1 - usedL (pl ms) : Nat) : Int) = 1 by omega]
    exact hF)
def lineC (x : LineL) : List Value := [.string (bs x.path), .int .i64 x.kind, .int .i64 x.mode, .string (bs x.data)]
def linesC (L : List LineL) : List Value := L.flatMap lineC
def intsC (L : List Int) : List Value := L.map fun x => .int .i64 x
theorem coll_lines (q : List PlcL) (x : PlcL) : linesC ((q ++ [x]).map (·.line)) = linesC (q.map (·.line)) ++ lineC x.line := by simp [linesC]
theorem coll_ints (q : List PlcL) (x : PlcL) : intsC ((q ++ [x]).map (·.ino)) = intsC (q.map (·.ino)) ++ [.int .i64 x.ino] := by simp [intsC]
theorem infoLine : (Tryd.prog.info? 32).map (fun i => (i.zero, i.size, i.bytes)) = some (some (.agg #[.string ⟨#[]⟩, .int .i64 0, .int .i64 0, .string ⟨#[]⟩]), 4, 48) := by kernel_rfl
theorem infoInt14 : (Tryd.prog.info? 3).map (fun i => (i.zero, i.size, i.bytes)) = some (some (.int .i64 0), 1, 8) := by kernel_rfl
theorem Old.size_le {Z : Nat → Prop} {V : World} {n : Nat} (h : Old Z V) (hn : ∀ g, g < n → Z g) : n ≤ V.heap.size := by
  rcases Nat.eq_zero_or_pos n with h0 | h0
  · omega
  · have := h _ (hn (n - 1) (by omega)); omega
set_option maxRecDepth 100000 in
set_option maxHeartbeats 4000000 in
theorem list_c {ao : Option Addr} {cap : Nat} {ms : List NodeM} (most room i : Int) (w : World) (hv : RdM w.heap.size (.slice ao ms.length cap) ms w) (hl : ms.length ≤ 1000) (hnl : ∀ n ∈ pl ms, n.names.length ≤ 10000) (hnm : ∀ n ∈ pl ms, ∀ e ∈ n.names, e.1.length ≤ 12) (hll : (plcT (pl ms) i).length ≤ 9999) :
    Calls Tryd.prog 6 #[.agg #[.slice ao ms.length cap, .int .i64 most, .int .i64 room], .int .i64 i] w fun e w' => ∃ v, e = .returned v ∧ w'.ownsRow w.heap.size 32 4 v (plcT (pl ms) i).length (linesC ((plcT (pl ms) i).map (·.line))) ∧ Below w.heap.size w w' := by
  refine (callsIn_wide (n := 0)).1 ?_
  refine calls_end Tryd.func6 rfl ?_
  simp only [Tryd.ntmps6, List.size_toArray, List.length_cons, List.length_nil, Nat.reduceAdd, Nat.reduceSub, Array.replicate_succ, Array.replicate_zero, List.push_toArray, List.append_toArray, List.nil_append, List.cons_append]
  obtain ⟨iE, hE, hEz, hEs, hEb⟩ := info_parts infoLine
  go_upto_region 2 with (fail)
  refine code_fresh2 ?_
  intro W2 hb2 hA2 hC2 hs2
  obtain ⟨d0, d1, d2⟩ := cells3 hA2
  go_wp2_with fail
  refine (places_c ao ms.length cap most room i W2).mono ?_
  rintro e W3 ⟨rfl, hb3, hF3, hs3⟩
  have hC3 := (hb3.block _ (by omega)).trans hC2
  have hB3 : Below w.heap.size w W3 := hb2.trans (hb3.mono (by omega))
  rw [hs2] at hF3 hs3 ⊢
  clear d0 d1 d2 hb2 hA2 hC2 hb3
  go_wp2_with fail
  have hseq := top_seq hv hl hnl hnm i _ _ _ _ W3 hB3 hF3
  have hY : Old (fun g => g < w.heap.size ∨ g ∈ [w.heap.size + 2 + 1, w.heap.size + 2 + 1 + 1, w.heap.size + 2 + 1 + 2, w.heap.size + 2 + 1 + 3]) W3 := fun g hg => by
    rcases hg with hg | hg
    · omega
    · simp only [List.mem_cons, List.not_mem_nil, or_false] at hg
      omega
  have nY : ¬ (w.heap.size + 1 < w.heap.size ∨ w.heap.size + 1 ∈ [w.heap.size + 2 + 1, w.heap.size + 2 + 1 + 1, w.heap.size + 2 + 1 + 2, w.heap.size + 2 + 1 + 3]) := fun hg => by
    rcases hg with hg | hg
    · omega
    · simp only [List.mem_cons, List.not_mem_nil, or_false] at hg
      omega
  refine range_it (Y := fun g => g < w.heap.size ∨ g ∈ [w.heap.size + 2 + 1, w.heap.size + 2 + 1 + 1, w.heap.size + 2 + 1 + 2, w.heap.size + 2 + 1 + 3]) rfl (enters_of Tryd.func36 (by kernel_rfl) rfl) (fun _ => rfl) hseq (KeepX.refl _ _) (fun _ hg => hg) hY
    (fun q => CollT (w.heap.size + 1) 27 32 w.heap.size 4 q.length (linesC (q.map (·.line)))) (fun q => (CollT.firm _ _ _ _ _ _ _)) ⟨nY, _, hC3, World.ownsRow_nil _ _ _ _, fun g e => (by cases e)⟩ (fun x a' Z V => ∃ bp, V.heap[bp]? = some (.cells #[.int .i64 x.ino, .int .i64 x.level, .string (bs x.line.path), .int .i64 x.line.kind, .int .i64 x.line.mode, .string (bs x.line.data)] 54 (0, 0)) ∧ ¬ Z bp ∧ a' = { tmps := #[.agg #[.slice ao ms.length cap, .int .i64 most, .int .i64 room], .int .i64 i, .pointer (some ⟨w.heap.size, 0, none⟩), undef, .slice none 0 0, .pointer (some ⟨w.heap.size + 1, 0, none⟩), .pointer (some ⟨bp, 0, none⟩), .agg #[.slice ao ms.length cap, .int .i64 most, .int .i64 room], .int .i64 i, .func (.func 36) #[] #[.pointer (some ⟨w.heap.size + 2 + 1, 0, none⟩), .pointer (some ⟨w.heap.size + 2 + 1 + 1, 0, none⟩), .pointer (some ⟨w.heap.size + 2 + 1 + 3, 0, none⟩), .pointer (some ⟨w.heap.size + 2 + 1 + 2, 0, none⟩)], plcV x, undef, undef, undef, undef, undef, undef], defers := [] }) (fun x a' => boxT_firm (.cells #[.int .i64 x.ino, .int .i64 x.level, .string (bs x.line.path), .int .i64 x.line.kind, .int .i64 x.line.mode, .string (bs x.line.data)] 54 (0, 0)) (fun bp => a' = { tmps := #[.agg #[.slice ao ms.length cap, .int .i64 most, .int .i64 room], .int .i64 i, .pointer (some ⟨w.heap.size, 0, none⟩), undef, .slice none 0 0, .pointer (some ⟨w.heap.size + 1, 0, none⟩), .pointer (some ⟨bp, 0, none⟩), .agg #[.slice ao ms.length cap, .int .i64 most, .int .i64 room], .int .i64 i, .func (.func 36) #[] #[.pointer (some ⟨w.heap.size + 2 + 1, 0, none⟩), .pointer (some ⟨w.heap.size + 2 + 1 + 1, 0, none⟩), .pointer (some ⟨w.heap.size + 2 + 1 + 3, 0, none⟩), .pointer (some ⟨w.heap.size + 2 + 1 + 2, 0, none⟩)], plcV x, undef, undef, undef, undef, undef, undef], defers := [] })) ?assign ?body ?done
  case assign =>
    intro l2 m2 q x Z V K hYZ hZo hi hK
    dsimp only [encL]
    gi_wp2
    refine fresh1 (P := fun V' => K _ V') ?_
    intro V' hb hA hs
    exact hK _ _ (KeepX.of hb hZo) ((CollT.firm _ _ _ _ _ _ _).keep hi hb) ⟨V.heap.size, hA, fun h => Nat.lt_irrefl _ (hZo _ h), rfl⟩
  case body =>
    rintro l2 m2 q x Z a' V hYZ hZo ⟨nZ, v, hbl, hrow, hav⟩ ⟨bp, hbp, nbp, rfl⟩ hlen
    obtain ⟨p0, p1, p2, p3, p4, p5⟩ := cells6 hbp
    have cl := Lib.cell_of_heap hbl 0
    have hbase : w.heap.size ≤ V.heap.size := by have := hZo.size_le (fun g hg => hYZ g (.inl hg)); omega
    have hql : q.length ≤ 9999 := by omega
    clear hbp
    gi_wp2_with (gi_at_builtin; refine Hid.out ?_)
    refine Lib.hid ?_
    refine wpListIn_append_own_at _ rfl (.tmp 11) (.tmp 14) 27 rfl w.heap.size 32 iE _ 4 48 Tryd.underlying27 hE hEz hEs hEb rfl (by decide) v q.length _ rfl (World.ownsRow.alloc hrow _) ⟨V.heap.size, 0, none⟩ 1 1 (lineC x.line) rfl rfl (World.news_of_block (cs := #[.string (bs x.line.path), .int .i64 x.line.kind, .int .i64 x.line.mode, .string (bs x.line.data)]) (heap_alloc_new _ _)) (fun u hu => by simp only [lineC, List.mem_cons, List.not_mem_nil, or_false] at hu; rcases hu with rfl | rfl | rfl | rfl <;> rfl) (by unfold maxLen; omega) (by omega) (by rw [World.size_alloc]; omega) ?_
    intro v' w1 ho hgr _ hat
    obtain ⟨g', cap', rfl⟩ := ownsRow_succ ho
    have hP := CollT.push hZo nZ hbl hav ho hgr hat
    have cl1 := Lib.cell_of_heap ((hgr.block _ (by have := lt_some hbl; simp; omega) (fun e => (hav _ e.symm).2 rfl)).trans ((Below.heap_alloc _ _ _ (lt_some hbl)).trans hbl)) 0
    have fr1 := Lib.frozen_of_heap ((hgr.block _ (by have := lt_some hbl; simp; omega) (fun e => (hav _ e.symm).2 rfl)).trans ((Below.heap_alloc _ _ _ (lt_some hbl)).trans hbl)) 0
    gi_wp2
    exact ⟨by rw [List.length_append, coll_lines]; exact hP.1, hP.2⟩
  case done =>
    intro D Z V hYZ hZD hDs hZo hi hkY hD
    obtain ⟨nZ, v, hbl, hrow, hav⟩ := hi
    have cl := Lib.cell_of_heap hbl 0
    have hBV : Below w.heap.size w V := hB3.trans (hkY.below fun _ hg => .inl hg)
    go_wp2_with fail
    refine ⟨by simp, .inl ⟨_, _, rfl, run_takeDeferred hD, ?_⟩⟩
    refine ⟨v, ?_, v, rfl, ?_, hBV.trans (KeepX.put (X := fun g => g < w.heap.size) (by omega) _ |>.below fun _ hg => hg)⟩
    · simp [results, Tryd.results6, go_sem]
    · exact ownsRow_same hrow fun g e => World.putObj_heap_other fun eD => (hav g e).1 (by rw [eD]; exact hZD)
set_option maxRecDepth 100000 in
set_option maxHeartbeats 4000000 in
theorem inside_c {ao : Option Addr} {cap : Nat} {ms : List NodeM} (most room i : Int) (w : World) (hv : RdM w.heap.size (.slice ao ms.length cap) ms w) (hl : ms.length ≤ 1000) (hnl : ∀ n ∈ pl ms, n.names.length ≤ 10000) (hnm : ∀ n ∈ pl ms, ∀ e ∈ n.names, e.1.length ≤ 12) (hll : (plcT (pl ms) i).length ≤ 9999) :
    Calls Tryd.prog 7 #[.agg #[.slice ao ms.length cap, .int .i64 most, .int .i64 room], .int .i64 i] w fun e w' => ∃ v, e = .returned v ∧ w'.ownsRow w.heap.size 3 1 v (plcT (pl ms) i).length (intsC ((plcT (pl ms) i).map (·.ino))) ∧ Below w.heap.size w w' := by
  refine (callsIn_wide (n := 0)).1 ?_
  refine calls_end Tryd.func7 rfl ?_
  simp only [Tryd.ntmps7, List.size_toArray, List.length_cons, List.length_nil, Nat.reduceAdd, Nat.reduceSub, Array.replicate_succ, Array.replicate_zero, List.push_toArray, List.append_toArray, List.nil_append, List.cons_append]
  obtain ⟨iE, hE, hEz, hEs, hEb⟩ := info_parts infoInt14
  go_upto_region 2 with (fail)
  refine code_fresh2 ?_
  intro W2 hb2 hA2 hC2 hs2
  obtain ⟨d0, d1, d2⟩ := cells3 hA2
  go_wp2_with fail
  refine (places_c ao ms.length cap most room i W2).mono ?_
  rintro e W3 ⟨rfl, hb3, hF3, hs3⟩
  have hC3 := (hb3.block _ (by omega)).trans hC2
  have hB3 : Below w.heap.size w W3 := hb2.trans (hb3.mono (by omega))
  rw [hs2] at hF3 hs3 ⊢
  clear d0 d1 d2 hb2 hA2 hC2 hb3
  go_wp2_with fail
  have hseq := top_seq hv hl hnl hnm i _ _ _ _ W3 hB3 hF3
  have hY : Old (fun g => g < w.heap.size ∨ g ∈ [w.heap.size + 2 + 1, w.heap.size + 2 + 1 + 1, w.heap.size + 2 + 1 + 2, w.heap.size + 2 + 1 + 3]) W3 := fun g hg => by
    rcases hg with hg | hg
    · omega
    · simp only [List.mem_cons, List.not_mem_nil, or_false] at hg
      omega
  have nY : ¬ (w.heap.size + 1 < w.heap.size ∨ w.heap.size + 1 ∈ [w.heap.size + 2 + 1, w.heap.size + 2 + 1 + 1, w.heap.size + 2 + 1 + 2, w.heap.size + 2 + 1 + 3]) := fun hg => by
    rcases hg with hg | hg
    · omega
    · simp only [List.mem_cons, List.not_mem_nil, or_false] at hg
      omega
  refine range_it (Y := fun g => g < w.heap.size ∨ g ∈ [w.heap.size + 2 + 1, w.heap.size + 2 + 1 + 1, w.heap.size + 2 + 1 + 2, w.heap.size + 2 + 1 + 3]) rfl (enters_of Tryd.func36 (by kernel_rfl) rfl) (fun _ => rfl) hseq (KeepX.refl _ _) (fun _ hg => hg) hY
    (fun q => CollT (w.heap.size + 1) 29 3 w.heap.size 1 q.length (intsC (q.map (·.ino)))) (fun q => (CollT.firm _ _ _ _ _ _ _)) ⟨nY, _, hC3, World.ownsRow_nil _ _ _ _, fun g e => (by cases e)⟩ (fun x a' Z V => ∃ bp, V.heap[bp]? = some (.cells #[.int .i64 x.ino, .int .i64 x.level, .string (bs x.line.path), .int .i64 x.line.kind, .int .i64 x.line.mode, .string (bs x.line.data)] 54 (0, 0)) ∧ ¬ Z bp ∧ a' = { tmps := #[.agg #[.slice ao ms.length cap, .int .i64 most, .int .i64 room], .int .i64 i, .pointer (some ⟨w.heap.size, 0, none⟩), undef, .slice none 0 0, .pointer (some ⟨w.heap.size + 1, 0, none⟩), .pointer (some ⟨bp, 0, none⟩), .agg #[.slice ao ms.length cap, .int .i64 most, .int .i64 room], .int .i64 i, .func (.func 36) #[] #[.pointer (some ⟨w.heap.size + 2 + 1, 0, none⟩), .pointer (some ⟨w.heap.size + 2 + 1 + 1, 0, none⟩), .pointer (some ⟨w.heap.size + 2 + 1 + 3, 0, none⟩), .pointer (some ⟨w.heap.size + 2 + 1 + 2, 0, none⟩)], plcV x, undef, undef, undef, undef, undef, undef], defers := [] }) (fun x a' => boxT_firm (.cells #[.int .i64 x.ino, .int .i64 x.level, .string (bs x.line.path), .int .i64 x.line.kind, .int .i64 x.line.mode, .string (bs x.line.data)] 54 (0, 0)) (fun bp => a' = { tmps := #[.agg #[.slice ao ms.length cap, .int .i64 most, .int .i64 room], .int .i64 i, .pointer (some ⟨w.heap.size, 0, none⟩), undef, .slice none 0 0, .pointer (some ⟨w.heap.size + 1, 0, none⟩), .pointer (some ⟨bp, 0, none⟩), .agg #[.slice ao ms.length cap, .int .i64 most, .int .i64 room], .int .i64 i, .func (.func 36) #[] #[.pointer (some ⟨w.heap.size + 2 + 1, 0, none⟩), .pointer (some ⟨w.heap.size + 2 + 1 + 1, 0, none⟩), .pointer (some ⟨w.heap.size + 2 + 1 + 3, 0, none⟩), .pointer (some ⟨w.heap.size + 2 + 1 + 2, 0, none⟩)], plcV x, undef, undef, undef, undef, undef, undef], defers := [] })) ?assign ?body ?done
  case assign =>
    intro l2 m2 q x Z V K hYZ hZo hi hK
    dsimp only [encL]
    gi_wp2
    refine fresh1 (P := fun V' => K _ V') ?_
    intro V' hb hA hs
    exact hK _ _ (KeepX.of hb hZo) ((CollT.firm _ _ _ _ _ _ _).keep hi hb) ⟨V.heap.size, hA, fun h => Nat.lt_irrefl _ (hZo _ h), rfl⟩
  case body =>
    rintro l2 m2 q x Z a' V hYZ hZo ⟨nZ, v, hbl, hrow, hav⟩ ⟨bp, hbp, nbp, rfl⟩ hlen
    obtain ⟨p0, p1, p2, p3, p4, p5⟩ := cells6 hbp
    have cl := Lib.cell_of_heap hbl 0
    have hbase : w.heap.size ≤ V.heap.size := by have := hZo.size_le (fun g hg => hYZ g (.inl hg)); omega
    have hql : q.length ≤ 9999 := by omega
    clear hbp
    gi_wp2_with (gi_at_builtin; refine Hid.out ?_)
    refine Lib.hid ?_
    refine wpListIn_append_own_at _ rfl (.tmp 11) (.tmp 14) 29 rfl w.heap.size 3 iE _ 1 8 Tryd.underlying29 hE hEz hEs hEb rfl (by decide) v q.length _ rfl (World.ownsRow.alloc hrow _) ⟨V.heap.size, 0, none⟩ 1 1 [.int .i64 x.ino] rfl rfl (World.news_of_block (cs := #[.int .i64 x.ino]) (heap_alloc_new _ _)) (fun u hu => by rw [List.mem_singleton] at hu; subst hu; rfl) (by unfold maxLen; omega) (by omega) (by rw [World.size_alloc]; omega) ?_
    intro v' w1 ho hgr _ hat
    obtain ⟨g', cap', rfl⟩ := ownsRow_succ ho
    have hP := CollT.push hZo nZ hbl hav ho hgr hat
    have cl1 := Lib.cell_of_heap ((hgr.block _ (by have := lt_some hbl; simp; omega) (fun e => (hav _ e.symm).2 rfl)).trans ((Below.heap_alloc _ _ _ (lt_some hbl)).trans hbl)) 0
    have fr1 := Lib.frozen_of_heap ((hgr.block _ (by have := lt_some hbl; simp; omega) (fun e => (hav _ e.symm).2 rfl)).trans ((Below.heap_alloc _ _ _ (lt_some hbl)).trans hbl)) 0
    gi_wp2
    exact ⟨by rw [List.length_append, coll_ints]; exact hP.1, hP.2⟩
  case done =>
    intro D Z V hYZ hZD hDs hZo hi hkY hD
    obtain ⟨nZ, v, hbl, hrow, hav⟩ := hi
    have cl := Lib.cell_of_heap hbl 0
    have hBV : Below w.heap.size w V := hB3.trans (hkY.below fun _ hg => .inl hg)
    go_wp2_with fail
    refine ⟨by simp, .inl ⟨_, _, rfl, run_takeDeferred hD, ?_⟩⟩
    refine ⟨v, ?_, v, rfl, ?_, hBV.trans (KeepX.put (X := fun g => g < w.heap.size) (by omega) _ |>.below fun _ hg => hg)⟩
    · simp [results, Tryd.results7, go_sem]
    · exact ownsRow_same hrow fun g e => World.putObj_heap_other fun eD => (hav g e).1 (by rw [eD]; exact hZD)
end Go.Proofs.YtilhiafmljmljaaDoor
namespace Go.Proofs.YtilhiafmljmljaaDoor
open Go.RowKit
section
variable {l : List NodeL}
theorem root_le {f g : Nat} {j : Int} (h : rootR l f j = true) (hfg : f ≤ g) : rootR l g j = true := by
  induction g with
  | zero => obtain rfl : f = 0 := by omega
            exact h
  | succ g ih =>
    by_cases e : f = g + 1
    · rw [← e]; exact h
    · exact rootR_mono l _ _ (ih (by omega))
theorem lev_uniq {a b j : Nat} (ha : Lev l a j) (hb : Lev l b j) : a = b := by
  rcases Nat.lt_trichotomy a b with h | h | h
  · have := root_le ha.1 (show a + 1 ≤ b by omega); rw [hb.2] at this; cases this
  · exact h
  · have := root_le hb.1 (show b + 1 ≤ a by omega); rw [ha.2] at this; cases this
def ancI (l : List NodeL) : Nat → Int → Int
  | 0, j => j
  | m + 1, j => (atI l (ancI l m j)).up
theorem inside_got (h : Rig l) : ∀ k : Nat, (nd l k).kind ≠ 0 → ∀ x ∈ insideT l (k : Int), ∃ j : Nat, x = j ∧ (nd l j).kind ≠ 0 := by
  refine tree_ind h (fun k => ∀ x ∈ insideT l (k : Int), ∃ j : Nat, x = j ∧ (nd l j).kind ≠ 0) fun k hk ih x hx => ?_
  rw [inside_is h ((got_nd l k).2 hk), nodeL_nd hk] at hx
  rcases List.mem_cons.1 hx with rfl | hx
  · exact ⟨k, rfl, hk⟩
  · obtain ⟨e, he, hx⟩ := List.mem_flatMap.1 hx
    obtain ⟨j, hj, _, _⟩ := h.nam k e he
    rw [hj] at hx
    exact ih e he j hj x hx
theorem inside_up (h : Rig l) : ∀ k : Nat, (nd l k).kind ≠ 0 → ∀ d, Lev l d k → ∀ j : Nat, (j : Int) ∈ insideT l (k : Int) → (nd l j).kind = 2 → ∃ m, Lev l (d + m) j ∧ ancI l m j = k := by
  refine tree_ind h (fun k => ∀ d, Lev l d k → ∀ j : Nat, (j : Int) ∈ insideT l (k : Int) → (nd l j).kind = 2 → ∃ m, Lev l (d + m) j ∧ ancI l m j = k) fun k hk ih d hl j hj h2 => ?_
  rw [inside_is h ((got_nd l k).2 hk), nodeL_nd hk] at hj
  rcases List.mem_cons.1 hj with hj | hj
  · obtain rfl : j = k := by omega
    exact ⟨0, hl, rfl⟩
  · obtain ⟨e, he, hj⟩ := List.mem_flatMap.1 hj
    obtain ⟨c, hc, _, hck⟩ := h.nam k e he
    rw [hc] at hj
    by_cases hc2 : (nd l c).kind = 2
    · obtain ⟨m, hm, ha⟩ := ih e he c hc (d + 1) (child_lev h hl he hc hc2) j hj h2
      refine ⟨m + 1, by rw [show d + (m + 1) = d + 1 + m by omega]; exact hm, ?_⟩
      show (atI l (ancI l m j)).up = k
      rw [ha, at_nd]
      exact (child_up h he hc hc2).2.1
    · rw [inside_is h ((got_nd l c).2 hck), nodeL_nd hck, (h.loc c hck).2.1 hc2] at hj
      have : j = c := by simp at hj; omega
      rw [this] at h2
      exact absurd h2 hc2
def dirI (l : List NodeL) (x : Int) : Bool := decide ((nodeL l x).kind = 2)
theorem cnt_two {es : List EntL} {c : Int} : ∀ {i j : Nat} (hi : i < es.length) (hj : j < es.length), i < j → es[i].2 = c → es[j].2 = c → 2 ≤ cntN es c := by
  induction es with
  | nil => intro i j hi; exact absurd hi (by simp)
  | cons e es ih =>
    intro i j hi hj hij h1 h2
    obtain ⟨j, rfl⟩ : ∃ j', j = j' + 1 := ⟨j - 1, by omega⟩
    have hjm : ∃ x ∈ es, x.2 = c := ⟨_, List.getElem_mem (by simpa using hj), by simpa using h2⟩
    have hp := cntN_pos.2 hjm
    have he : cntN (e :: es) c = cntN es c + if e.2 = c then 1 else 0 := by unfold cntN; rw [List.countP_cons]; simp
    cases i with
    | zero =>
      have : e.2 = c := by simpa using h1
      rw [he, if_pos this]; omega
    | succ i =>
      have := ih (i := i) (j := j) (by simpa using hi) (by simpa using hj) (by omega) (by simpa using h1) (by simpa using h2)
      rw [he]; omega
theorem inside_once (h : Rig l) : ∀ k : Nat, (nd l k).kind ≠ 0 → ((insideT l (k : Int)).filter (dirI l)).Nodup := by
  refine tree_ind h (fun k => ((insideT l (k : Int)).filter (dirI l)).Nodup) fun k hk ih => ?_
  have hg := (got_nd l k).2 hk
  by_cases hn : (nd l k).names = []
  · rw [inside_is h hg, nodeL_nd hk, hn]
    show ([(k : Int)].filter (dirI l)).Nodup
    exact List.Nodup.sublist List.filter_sublist (by simp)
  obtain ⟨h2, d, hl⟩ := names_lev h hn
  rw [inside_is h hg, nodeL_nd hk]
  have hdir : ∀ j : Nat, (nd l j).kind ≠ 0 → dirI l (j : Int) = true → (nd l j).kind = 2 := fun j hj hd => by
    unfold dirI at hd
    rw [nodeL_nd hj] at hd
    exact of_decide_eq_true hd
  have sub : ∀ e ∈ (nd l k).names, ∀ x, x ∈ (insideT l e.2).filter (dirI l) → ∃ c j m : Nat, e.2 = c ∧ x = j ∧ (nd l c).kind = 2 ∧ Lev l (d + 1 + m) j ∧ ancI l m j = c := by
    intro e he x hx
    obtain ⟨hx, hxd⟩ := List.mem_filter.1 hx
    obtain ⟨c, hc, _, hck⟩ := h.nam k e he
    rw [hc] at hx
    obtain ⟨j, rfl, hjk⟩ := inside_got h c hck x hx
    have hj2 := hdir j hjk hxd
    by_cases hc2 : (nd l c).kind = 2
    · obtain ⟨m, hm, ha⟩ := inside_up h c hck (d + 1) (child_lev h hl he hc hc2) j hx hj2
      exact ⟨c, j, m, hc, rfl, hc2, hm, ha⟩
    · rw [inside_is h ((got_nd l c).2 hck), nodeL_nd hck, (h.loc c hck).2.1 hc2] at hx
      have : j = c := by simp at hx; omega
      rw [this] at hj2
      exact absurd hj2 hc2
  have htop : (List.filter (dirI l) ((k : Int) :: (nd l k).names.flatMap fun e => insideT l e.2)) = (k : Int) :: (nd l k).names.flatMap fun e => (insideT l e.2).filter (dirI l) := by
    rw [List.filter_cons, if_pos (by unfold dirI; rw [nodeL_nd hk, h2]; rfl), List.filter_flatMap]
  rw [htop, List.nodup_cons]
  refine ⟨fun hm => ?_, ?_⟩
  · obtain ⟨e, he, hx⟩ := List.mem_flatMap.1 hm
    obtain ⟨c, j, m, _, hkj, _, hm', _⟩ := sub e he _ hx
    obtain rfl : k = j := by omega
    have := lev_uniq hl hm'
    omega
  · show List.Pairwise (· ≠ ·) _
    rw [List.pairwise_flatMap]
    refine ⟨fun e he => ?_, ?_⟩
    · obtain ⟨c, hc, _, hck⟩ := h.nam k e he
      rw [hc]
      exact ih e he c hc
    · rw [List.pairwise_iff_getElem]
      intro i j hi hj hij x hx y hy hxy
      subst hxy
      obtain ⟨c1, j1, m1, e1, rfl, g1, l1, a1⟩ := sub _ (List.getElem_mem hi) _ hx
      obtain ⟨c2, j2, m2, e2, ej, g2, l2, a2⟩ := sub _ (List.getElem_mem hj) _ hy
      obtain rfl : j1 = j2 := by omega
      have := lev_uniq l1 l2
      obtain rfl : m1 = m2 := by omega
      have hcc : c1 = c2 := by rw [a1] at a2; omega
      subst hcc
      have h22 := cnt_two hi hj hij e1 e2
      have h1 := (child_up h (List.getElem_mem hi) e1 g1).2.2
      have := cnt_ge (l := l) k (c1 : Int)
      omega
theorem once (h : Rig l) {i : Int} {a b : Nat} (ha : a < (insideT l i).length) (hb : b < (insideT l i).length) (hab : b < a) (he : (insideT l i)[b] = (insideT l i)[a]) : (nodeL l (insideT l i)[a]).kind ≠ 2 := by
  intro h2
  cases hg : gotB l i with
  | false => rw [inside_no hg] at ha; exact absurd ha (by simp)
  | true =>
    obtain ⟨k, rfl, _, hk⟩ := got_nat hg
    have hnd : List.Pairwise (· ≠ ·) ((insideT l (k : Int)).filter (dirI l)) := inside_once h k hk
    rw [List.pairwise_filter, List.pairwise_iff_getElem] at hnd
    have hd : dirI l (insideT l (k : Int))[a] = true := by unfold dirI; rw [h2]; rfl
    exact hnd b a hb ha hab (by rw [he]; exact hd) hd he
theorem inside_all (h : Rig l) {i : Int} : ∀ x ∈ insideT l i, gotB l x = true := by
  cases hg : gotB l i with
  | false => rw [inside_no hg]; intro x hx; cases hx
  | true =>
    obtain ⟨k, rfl, _, hk⟩ := got_nat hg
    intro x hx
    obtain ⟨j, rfl, hj⟩ := inside_got h k hk x hx
    exact (got_nd l j).2 hj
def wN (l : List NodeL) (x : Int) : Nat := (nodeL l x).names.length
theorem len_sum (h : Rig l) : ∀ k : Nat, (nd l k).kind ≠ 0 → (insideT l (k : Int)).length = 1 + ((insideT l (k : Int)).map (wN l)).sum := by
  refine tree_ind h (fun k => (insideT l (k : Int)).length = 1 + ((insideT l (k : Int)).map (wN l)).sum) fun k hk ih => ?_
  have hg := (got_nd l k).2 hk
  rw [inside_is h hg, nodeL_nd hk, List.length_cons, List.map_cons, List.sum_cons]
  have hw : wN l (k : Int) = (nd l k).names.length := by unfold wN; rw [nodeL_nd hk]
  have : ∀ es : List EntL, (∀ e ∈ es, e ∈ (nd l k).names) → (es.flatMap fun e => insideT l e.2).length = es.length + ((es.flatMap fun e => insideT l e.2).map (wN l)).sum := by
    intro es
    induction es with
    | nil => intro _; rfl
    | cons e es ihe =>
      intro hm
      obtain ⟨j, hj, _, _⟩ := h.nam k e (hm e List.mem_cons_self)
      have h1 := ih e (hm e List.mem_cons_self) j hj
      rw [← hj] at h1
      have h2 := ihe fun x hx => hm x (List.mem_cons_of_mem _ hx)
      rw [List.flatMap_cons, List.length_append, List.map_append, List.sum_append, List.length_cons]
      omega
  have := this _ fun e he => he
  rw [hw]
  omega
theorem sum_filter (p : Int → Bool) (g : Int → Nat) (c : Nat) : ∀ L : List Int, (∀ x ∈ L, p x = false → g x = 0) → (∀ x ∈ L, g x ≤ c) → (L.map g).sum ≤ (L.filter p).length * c := by
  intro L
  induction L with
  | nil => intro _ _; simp
  | cons a L ih =>
    intro h0 hc
    have h1 := ih (fun x hx => h0 x (List.mem_cons_of_mem _ hx)) fun x hx => hc x (List.mem_cons_of_mem _ hx)
    rw [List.map_cons, List.sum_cons, List.filter_cons]
    cases hp : p a with
    | true =>
      have := hc a List.mem_cons_self
      rw [if_pos rfl, List.length_cons, Nat.add_mul]
      omega
    | false =>
      have := h0 a List.mem_cons_self hp
      rw [if_neg (by decide)]
      omega
theorem len_inside (h : Rig l) {c : Nat} (hc : ∀ n ∈ l, n.names.length ≤ c) (i : Int) : (insideT l i).length ≤ 1 + l.length * c := by
  cases hg : gotB l i with
  | false => rw [inside_no hg]; exact Nat.zero_le _
  | true =>
    obtain ⟨k, rfl, _, hk⟩ := got_nat hg
    rw [len_sum h k hk]
    have hall := inside_all h (i := (k : Int))
    have h1 := sum_filter (dirI l) (wN l) c (insideT l (k : Int)) (fun x hx hd => by
      unfold dirI at hd
      unfold wN
      rw [names_dir h (hall x hx) (of_decide_eq_false hd)]
      rfl) fun x hx => by
      obtain ⟨j, rfl, hjl, hj⟩ := got_nat (hall x hx)
      unfold wN
      rw [nodeL_nd hj, nd_lt hjl]
      exact hc _ (List.getElem_mem hjl)
    have h2 : ((insideT l (k : Int)).filter (dirI l)).length ≤ l.length := by
      have hnd := inside_once h k hk
      have := pigeon l.length (((insideT l (k : Int)).filter (dirI l)).map Int.toNat) ?_ ?_
      · rwa [List.length_map] at this
      · show List.Pairwise (· ≠ ·) _
        rw [List.pairwise_map]
        refine List.Pairwise.imp_of_mem ?_ hnd
        intro x y hx hy hne he
        obtain ⟨a, rfl, _, _⟩ := got_nat (hall x (List.mem_filter.1 hx).1)
        obtain ⟨b, rfl, _, _⟩ := got_nat (hall y (List.mem_filter.1 hy).1)
        exact hne (by have : a = b := by simpa using he
                      rw [this])
      · intro x hx
        obtain ⟨y, hy, rfl⟩ := List.mem_map.1 hx
        obtain ⟨a, rfl, ha, _⟩ := got_nat (hall y (List.mem_filter.1 hy).1)
        simpa using ha
    have h3 := Nat.mul_le_mul_right c h2
    omega
end
end Go.Proofs.YtilhiafmljmljaaDoor
namespace Go.Proofs.YtilhiafmljmljaaDoor
open Go.RowKit Go.Shelf
attribute [local go_sem ↓] Go.wp_at_zero Go.wp_at_succ
theorem linesC_at (L : List LineL) (k : Nat) (h : k < L.length) (j : Nat) (hj : j < 4) : (linesC L)[k * 4 + j]? = (lineC L[k])[j]? := by
  induction L generalizing k with
  | nil => simp at h
  | cons m L ih =>
    have e : linesC (m :: L) = lineC m ++ linesC L := rfl
    have l4 : (lineC m).length = 4 := rfl
    rw [e]
    cases k with
    | zero => rw [List.getElem?_append_left (by omega)]; simp
    | succ k =>
      rw [List.getElem?_append_right (by omega), l4, show (k + 1) * 4 + j - 4 = k * 4 + j by omega]
      exact ih k (by simpa using h)
theorem line_at {B : Nat} {ao : Option Addr} {cap n : Nat} {L : List LineL} {W : World} (h : Rd B 4 (.slice ao n cap) n (linesC L) W) (hn : n = L.length) (k : Nat) (hk : k < L.length) :
    ∃ b off, ao = some ⟨b, off, none⟩ ∧ b < B ∧ W.cell? ⟨b, off + k * 4, none⟩ = some (.string (bs L[k].path)) ∧ W.cell? ⟨b, off + k * 4 + 1, none⟩ = some (.int .i64 L[k].kind) ∧ W.cell? ⟨b, off + k * 4 + 2, none⟩ = some (.int .i64 L[k].mode) ∧ W.cell? ⟨b, off + k * 4 + 3, none⟩ = some (.string (bs L[k].data)) := by
  obtain ⟨b, off, cap', e, _, _, hb, _, hc⟩ := h.at (by omega)
  injection e with e1 _ _
  subst e1
  refine ⟨b, off, rfl, hb, ?_, ?_, ?_, ?_⟩
  · exact hc _ _ (linesC_at L k hk 0 (by decide))
  all_goals (rw [Nat.add_assoc]; exact hc _ _ (linesC_at L k hk _ (by decide)))
end Go.Proofs.YtilhiafmljmljaaDoor
namespace Go.Proofs.YtilhiafmljmljaaDoor
open Go.RowKit Go.Shelf
attribute [local go_sem ↓] Go.wp_at_zero Go.wp_at_succ
structure TreeOk (l : List NodeL) : Prop where
  rig : Rig l
  len : l.length ≤ 1000
  nam : ∀ n ∈ l, n.names.length ≤ 10000
  nm : ∀ n ∈ l, ∀ e ∈ n.names, e.1.length ≤ 12
  many : ∀ i, (listT l i).length ≤ 9999
end Go.Proofs.YtilhiafmljmljaaDoor
