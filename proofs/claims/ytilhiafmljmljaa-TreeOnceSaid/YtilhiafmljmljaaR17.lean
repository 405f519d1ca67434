import Derived.Test.YtilhiafmljmljaaR16
import Derived.Test.YtilhiafmljmljaaR14
import Derived.Test.YtilhiafmljmljaaR15
import Derived.Test.YtilhiafmljmljaaR12
namespace Go.Proofs.Ytilhiafmljmljaa
open Go.RowKit
structure PlcL where
  ino : Int
  level : Nat
  line : LineL
def plcF (l : List NodeL) (u : Nat) : Nat → Int → Nm → List PlcL
  | 0, _, _ => []
  | f + 1, i, p => if gotB l i = true then ⟨i, u - f, ⟨p, (nodeL l i).kind, (nodeL l i).mode, (nodeL l i).data⟩⟩ :: (if (nodeL l i).kind = 2 then (nodeL l i).names.flatMap fun e => plcF l u f e.2 (joinL p e.1) else []) else []
def preP (p : Nm) (x : LineL) : LineL := ⟨if p = [] then x.path else if x.path = [] then p else p ++ 47 :: x.path, x.kind, x.mode, x.data⟩
theorem preP_nil (x : LineL) : preP [] x = x := by cases x; rfl
def PathOk (p : Nm) : Prop := p = [] ∨ Lib.hasSuffix p [47] = false
theorem suffix_one (p : Nm) : Lib.hasSuffix p [47] = decide (p.getLast? = some 47) := by
  rcases List.eq_nil_or_concat p with rfl | ⟨q, c, rfl⟩
  · rfl
  · by_cases h : c = 47
    · subst h; simp [Lib.hasSuffix, List.isSuffixOf, List.isPrefixOf]
    · have h2 : ¬ (47 : UInt8) = c := fun e => h e.symm
      simp [Lib.hasSuffix, List.isSuffixOf, List.isPrefixOf, h, h2]
theorem legal_parts {nm : Nm} (h : legalL nm = 0) : nm ≠ [] ∧ (47 : UInt8) ∉ nm ∧ (0 : UInt8) ∉ nm ∧ nm ≠ [46] ∧ nm ≠ [46, 46] ∧ nm.length ≤ 12 := by
  have hl := legal_len h
  unfold legalL at h
  split at h
  · cases h
  · rename_i hn
    refine ⟨fun e => hn (.inl e), fun e => hn (.inr (.inr (.inr (List.any_eq_true.2 ⟨_, e, rfl⟩)))), fun e => hn (.inr (.inr (.inr (List.any_eq_true.2 ⟨_, e, rfl⟩)))), fun e => hn (.inr (.inl e)), fun e => hn (.inr (.inr (.inl e))), hl⟩
theorem join_path {p nm : Nm} (hp : PathOk p) (h : legalL nm = 0) : joinL p nm = if p = [] then nm else p ++ 47 :: nm := by
  obtain ⟨h0, h1, _⟩ := legal_parts h
  have hpre : Lib.hasPrefix nm [47] = false := by
    cases nm with
    | nil => exact absurd rfl h0
    | cons c r =>
      have : c ≠ 47 := fun e => h1 (e ▸ List.mem_cons_self)
      simp [Lib.hasPrefix, List.isPrefixOf, this.symm]
  unfold joinL
  by_cases e : p = []
  · rw [if_pos (.inl e), if_pos e]
  · rw [if_neg (fun h => h.elim e fun h => by rw [hpre] at h; cases h), if_neg h0, if_neg e]
    rcases hp with hp | hp
    · exact absurd hp e
    · rw [if_neg (by rw [hp]; decide)]; simp
theorem join_ok {p nm : Nm} (hp : PathOk p) (h : legalL nm = 0) : PathOk (joinL p nm) ∧ joinL p nm ≠ [] ∧ (joinL p nm).length ≤ p.length + 13 := by
  rw [join_path hp h]
  obtain ⟨h0, h1, _, _, _, h5⟩ := legal_parts h
  have hl : nm.getLast? ≠ some 47 := fun e => h1 (List.mem_of_getLast? e)
  split
  · exact ⟨.inr (by rw [suffix_one]; exact decide_eq_false hl), h0, by omega⟩
  · refine ⟨.inr ?_, by simp, by simp; omega⟩
    rw [suffix_one]
    refine decide_eq_false fun e => hl ?_
    rw [List.getLast?_append] at e
    cases nm with
    | nil => exact absurd rfl h0
    | cons c r => simpa [List.getLast?_cons] using e
theorem pre_under {p nm : Nm} (hp : PathOk p) (h : legalL nm = 0) (x : LineL) : preP p (underL nm x) = preP (joinL p nm) x := by
  obtain ⟨h0, _⟩ := legal_parts h
  rw [join_path hp h]
  unfold preP underL
  refine line_ext ?_ rfl rfl rfl
  by_cases e : p = []
  · simp [e, h0]
  · by_cases e2 : x.path = []
    · simp [e, e2, h0]
    · simp [e, e2, h0]
theorem pigeonP (p : Nat → Bool) : ∀ (n : Nat) (L : List Nat), L.Nodup → (∀ x ∈ L, x < n ∧ p x = true) → L.length ≤ (List.range n).countP p := by
  intro n
  induction n with
  | zero =>
    intro L _ h
    cases L with
    | nil => exact Nat.zero_le _
    | cons a L => exact absurd (h a (by simp)).1 (Nat.not_lt_zero _)
  | succ n ih =>
    intro L hd h
    have h1 := ih (L.erase n) (hd.erase n) fun x hx => by
      have h2 := (hd.mem_erase_iff).1 hx
      have h3 := h x h2.2
      exact ⟨by have := h2.1; omega, h3.2⟩
    rw [List.range_succ, List.countP_append]
    rw [List.length_erase] at h1
    split at h1
    · rename_i hm
      have : p n = true := (h n (by simpa using hm)).2
      simp [this]
      omega
    · omega
section
variable {l : List NodeL}
theorem used_range (l : List NodeL) : usedL l = (List.range l.length).countP fun k => !decide ((nd l k).kind = 0) := by
  have e : l = (List.range l.length).map (nd l) := by
    apply List.ext_getElem
    · simp
    · intro i h1 h2
      rw [List.getElem_map, List.getElem_range, nd_lt h1]
  unfold usedL
  conv => lhs; rw [e]
  rw [List.countP_map]
  rfl
theorem used_of {L : List Nat} (hd : L.Nodup) (h : ∀ x ∈ L, (nd l x).kind ≠ 0) : L.length ≤ usedL l := by
  rw [used_range]
  exact pigeonP _ _ L hd fun x hx => ⟨nd_kind (h x hx), by simpa using h x hx⟩
theorem lev_path (h : Rig l) {d k : Nat} (hl : Lev l d k) : ∃ L : List Nat, L.length = d + 1 ∧ L.Nodup ∧ ∀ x ∈ L, (nd l x).kind = 2 := by
  obtain ⟨L, h1, h2, _, h4⟩ := rootR_path l h.len d k hl.1 hl.2
  refine ⟨L, h1, h2, fun x hx => ?_⟩
  have hr := h4 x hx
  rcases rootR_up hr with h0 | ⟨_, hk, _⟩
  · have : x = 0 := by omega
    rw [this]; exact h.root.1
  · rwa [at_nd] at hk
theorem lev_used (h : Rig l) {d k : Nat} (hl : Lev l d k) : d + 1 ≤ usedL l := by
  obtain ⟨L, h1, h2, h3⟩ := lev_path h hl
  have := used_of (l := l) h2 fun x hx => by rw [h3 x hx]; decide
  omega
theorem file_used (h : Rig l) {d k j : Nat} (hl : Lev l d k) (h0 : (nd l j).kind ≠ 0) (h2 : (nd l j).kind ≠ 2) : d + 2 ≤ usedL l := by
  obtain ⟨L, h1, hd, h3⟩ := lev_path h hl
  have := used_of (l := l) (L := j :: L) (List.nodup_cons.2 ⟨fun hm => h2 (h3 j hm), hd⟩) fun x hx => by
    rcases List.mem_cons.1 hx with rfl | hx
    · exact h0
    · rw [h3 x hx]; decide
  rw [List.length_cons] at this
  omega
theorem child_used (h : Rig l) {d k : Nat} (hl : Lev l d k) {e : EntL} (he : e ∈ (nd l k).names) : d + 2 ≤ usedL l := by
  obtain ⟨j, hj, _, hjk⟩ := h.nam k e he
  by_cases h2 : (nd l j).kind = 2
  · exact lev_used h (child_lev h hl he hj h2)
  · exact file_used h hl hjk h2
def EnoughU (l : List NodeL) (f : Nat) (i : Int) : Prop := 1 ≤ f ∧ ((nodeL l i).names = [] ∨ ∃ d k : Nat, i = k ∧ Lev l d k ∧ usedL l ≤ f + d)
theorem enoughu_child (h : Rig l) {f : Nat} {i : Int} (hf : EnoughU l (f + 1) i) {e : EntL} (he : e ∈ (nodeL l i).names) : EnoughU l f e.2 := by
  rcases hf.2 with h0 | ⟨d, k, rfl, hl, hd⟩
  · rw [h0] at he; cases he
  · have hk : (nd l k).kind ≠ 0 := by
      intro e0
      rw [nodeL_none (fun hg => (got_nd l k).1 hg e0)] at he
      cases he
    rw [nodeL_nd hk] at he
    obtain ⟨j, hj, _, hjk⟩ := h.nam k e he
    have hd2 := child_used h hl he
    refine ⟨by omega, ?_⟩
    rw [hj, nodeL_nd hjk]
    by_cases hn : (nd l j).names = []
    · exact .inl hn
    · exact .inr ⟨d + 1, j, rfl, child_lev h hl he hj (names_lev h hn).1, by omega⟩
theorem got_used {i : Int} (hg : gotB l i = true) : 1 ≤ usedL l := by
  obtain ⟨k, rfl, _, hk⟩ := got_nat hg
  exact used_of (l := l) (L := [k]) (by simp) fun x hx => by rw [List.mem_singleton.1 hx]; exact hk
theorem enoughu_full (h : Rig l) {i : Int} (hg : gotB l i = true) : EnoughU l (usedL l) i := by
  refine ⟨got_used hg, ?_⟩
  obtain ⟨k, rfl, _, hk⟩ := got_nat hg
  rw [nodeL_nd hk]
  by_cases hn : (nd l k).names = []
  · exact .inl hn
  · obtain ⟨d, hd⟩ := (names_lev h hn).2
    exact .inr ⟨d, k, rfl, hd, by omega⟩
theorem names_dir (h : Rig l) {i : Int} (hg : gotB l i = true) (h2 : (nodeL l i).kind ≠ 2) : (nodeL l i).names = [] := by
  obtain ⟨k, rfl, _, hk⟩ := got_nat hg
  rw [nodeL_nd hk] at h2 ⊢
  exact (h.loc k hk).2.1 h2
theorem names_legal (h : Rig l) {i : Int} (hg : gotB l i = true) : ∀ e ∈ (nodeL l i).names, legalL e.1 = 0 := by
  obtain ⟨k, rfl, _, hk⟩ := got_nat hg
  rw [nodeL_nd hk]
  exact (h.loc k hk).2.2.2.1
theorem names_got (h : Rig l) {i : Int} (hg : gotB l i = true) : ∀ e ∈ (nodeL l i).names, gotB l e.2 = true := by
  obtain ⟨k, rfl, _, hk⟩ := got_nat hg
  rw [nodeL_nd hk]
  intro e he
  obtain ⟨j, hj, _, hjk⟩ := h.nam k e he
  rw [hj]
  exact (got_nd l j).2 hjk
theorem plc_line (h : Rig l) (u : Nat) : ∀ (f : Nat) (i : Int) (p : Nm), PathOk p → EnoughU l f i → (plcF l u f i p).map (·.line) = (listT l i).map (preP p) := by
  intro f
  induction f with
  | zero => intro i p _ hf; exact absurd hf.1 (by omega)
  | succ f ih =>
    intro i p hp hf
    unfold plcF
    cases hg : gotB l i with
    | false => rw [list_no hg]; rfl
    | true =>
      rw [if_pos rfl, list_is h hg, List.map_cons, List.map_cons]
      congr 1
      · unfold preP topL
        refine line_ext ?_ rfl rfl rfl
        by_cases e : p = [] <;> simp [e]
      · by_cases h2 : (nodeL l i).kind = 2
        · rw [if_pos h2, List.map_flatMap, List.map_flatMap]
          refine flat_congr fun e he => ?_
          have hle := names_legal h hg e he
          rw [ih _ _ (join_ok hp hle).1 (enoughu_child h hf he), List.map_map]
          refine List.map_congr_left fun x _ => ?_
          exact (pre_under hp hle x).symm
        · rw [if_neg h2, names_dir h hg h2]; rfl
theorem plc_ino (h : Rig l) (u : Nat) : ∀ (f : Nat) (i : Int) (p : Nm), EnoughU l f i → (plcF l u f i p).map (·.ino) = insideT l i := by
  intro f
  induction f with
  | zero => intro i p hf; exact absurd hf.1 (by omega)
  | succ f ih =>
    intro i p hf
    unfold plcF
    cases hg : gotB l i with
    | false => rw [inside_no hg]; rfl
    | true =>
      rw [if_pos rfl, inside_is h hg, List.map_cons]
      congr 1
      by_cases h2 : (nodeL l i).kind = 2
      · rw [if_pos h2, List.map_flatMap]
        exact flat_congr fun e he => ih _ _ (enoughu_child h hf he)
      · rw [if_neg h2, names_dir h hg h2]; rfl
def deepF (a : Nat) (L : List PlcL) : Nat := L.foldl (fun m x => max m x.level) a
theorem deep_app (a : Nat) (A B : List PlcL) : deepF a (A ++ B) = deepF (deepF a A) B := List.foldl_append
theorem max_fold {α : Type} (g : α → Nat) : ∀ (es : List α) (a : Nat), (es.map g).foldl max a = max a (maxN (es.map g)) := by
  intro es
  unfold maxN
  induction es with
  | nil => intro a; simp
  | cons e es ih => intro a; simp only [List.map_cons, List.foldl_cons]; rw [ih, ih (max 0 (g e))]; omega
theorem deep_flat (c : Nat) (F : EntL → List PlcL) (g : EntL → Nat) : ∀ (es : List EntL) (a : Nat), c ≤ a → (∀ e ∈ es, ∀ b, deepF b (F e) = max b (c + g e)) → deepF a (es.flatMap F) = max a (c + maxN (es.map g)) := by
  intro es
  induction es with
  | nil => intro a ha _; simp [deepF, maxN]; omega
  | cons e es ih =>
    intro a ha hF
    rw [List.flatMap_cons, deep_app, hF e List.mem_cons_self, ih _ (by omega) fun x hx => hF x (List.mem_cons_of_mem _ hx)]
    have : maxN ((e :: es).map g) = max (g e) (maxN (es.map g)) := by
      show ((e :: es).map g).foldl max 0 = _
      rw [List.map_cons, List.foldl_cons, max_fold]
      omega
    rw [this]
    omega
theorem plc_deep (h : Rig l) (u : Nat) : ∀ (f : Nat) (i : Int) (p : Nm), f ≤ u → gotB l i = true → EnoughU l f i → ∀ a, deepF a (plcF l u f i p) = max a (u - f + depthT l i) := by
  intro f
  induction f with
  | zero => intro i p _ _ hf; exact absurd hf.1 (by omega)
  | succ f ih =>
    intro i p hu hg hf a
    unfold plcF
    rw [if_pos hg, depth_is h hg]
    show deepF (max a (u - f)) _ = _
    by_cases h2 : (nodeL l i).kind = 2
    · rw [if_pos h2, deep_flat (u - f) (fun e => plcF l u f e.2 (joinL p e.1)) (fun e => depthT l e.2) _ _ (by omega) fun e he b => ih _ _ (by omega) (names_got h hg e he) (enoughu_child h hf he) b]
      omega
    · rw [if_neg h2, names_dir h hg h2]
      show max a (u - f) = max a (u - (f + 1) + (1 + 0))
      omega
def plcT (l : List NodeL) (i : Int) : List PlcL := plcF l (usedL l) (usedL l) i []
theorem plcF_no {u f : Nat} {i : Int} {p : Nm} (hg : gotB l i = false) : plcF l u f i p = [] := by
  cases f with
  | zero => rfl
  | succ f => unfold plcF; rw [if_neg (by rw [hg]; decide)]
theorem top_line (h : Rig l) (i : Int) : (plcT l i).map (·.line) = listT l i := by
  unfold plcT
  cases hg : gotB l i with
  | false => rw [plcF_no hg, list_no hg]; rfl
  | true =>
    rw [plc_line h _ _ _ _ (.inl rfl) (enoughu_full h hg), show preP [] = id from funext preP_nil, List.map_id]
theorem top_ino (h : Rig l) (i : Int) : (plcT l i).map (·.ino) = insideT l i := by
  unfold plcT
  cases hg : gotB l i with
  | false => rw [plcF_no hg, inside_no hg]; rfl
  | true => exact plc_ino h _ _ _ _ (enoughu_full h hg)
theorem top_deep (h : Rig l) (i : Int) : deepF 0 (plcT l i) = depthT l i := by
  unfold plcT
  cases hg : gotB l i with
  | false => rw [plcF_no hg, depth_no hg]; rfl
  | true => rw [plc_deep h _ _ _ _ (Nat.le_refl _) hg (enoughu_full h hg)]; omega
end
end Go.Proofs.Ytilhiafmljmljaa
namespace Go.Proofs.Ytilhiafmljmljaa
open Go.RowKit Go.Shelf
attribute [local go_sem ↓] Go.wp_at_zero Go.wp_at_succ
section
variable {X : Nat → Prop} {w W W' : World} {B : List Bo} {J : Thing}
theorem It.set {b : Nat} {o o' : Obj} (h : It X w ((b, o) :: B) J W) (hb : Below b W W') (hg : ∀ g, g ≠ b → W'.heap[g]? = W.heap[g]?) (hs : W'.heap.size = W.heap.size) (hn : W'.heap[b]? = some o') : It X w ((b, o') :: B) J W' := by
  have hnd := h.nd
  rw [List.map_cons, List.nodup_cons] at hnd
  refine ⟨h.keep.trans (KeepX.one (h.no List.mem_cons_self) hb hg), h.old, fun x hx => ?_, h.nd, h.firm, h.firm.other h.j (.inr List.mem_cons_self) hs hg⟩
  rcases List.mem_cons.1 hx with rfl | hx
  · exact ⟨hn, (h.blk _ List.mem_cons_self).2⟩
  · have hb := h.blk x (List.mem_cons_of_mem _ hx)
    refine ⟨(hg _ fun e => hnd.1 ?_).trans hb.1, hb.2⟩
    rw [← e]
    exact List.mem_map.2 ⟨x, hx, rfl⟩
theorem It.row (h : It X w B J W) (hb : Below W.heap.size W W') {m : NodeM} (hr : RdNm W'.heap.size m W') (hn : NewV W.heap.size m.2) :
    ∃ R : List Bo, It X w (R ++ B) J W' ∧ ∀ V : World, (∀ x ∈ R, V.heap[x.1]? = some x.2) → W'.heap.size ≤ V.heap.size → RdNm V.heap.size m V := by
  rcases Nat.eq_zero_or_pos m.1.names.length with h0 | h0
  · refine ⟨[], h.call hb, fun V _ _ => ?_⟩
    obtain ⟨ao, cap, e, hc, hm, hz, hl, _⟩ := hr
    exact ⟨ao, cap, e, hc, hm, hz, hl, fun hp => by omega⟩
  · obtain ⟨b, off, cap, e, hc, hm, hlt, hl, hcell⟩ := Rd.at hr h0
    have hbW := hn b (by rw [e]; rfl)
    refine ⟨[(b, W'.heap[b])], h.push hb (Array.getElem?_eq_getElem hlt) hbW, fun V hV hs => ?_⟩
    have hVb := hV _ List.mem_cons_self
    refine ⟨_, cap, e, hc, hm, fun e => (by cases e), hl, fun _ => ⟨b, off, rfl, by omega, fun j u hu => ?_⟩⟩
    rw [← hcell j u hu]
    refine World.cell?_of_block ?_
    rw [hVb]
    exact (Array.getElem?_eq_getElem hlt).symm
end
abbrev plcV (x : PlcL) : Value := .agg #[.int .i64 x.ino, .int .i64 x.level, .string (bs x.line.path), .int .i64 x.line.kind, .int .i64 x.line.mode, .string (bs x.line.data)]
def encL (x : PlcL) : Array Value := #[plcV x]
structure HoldsF (vd : Value) (most room i : Int) (p : Nm) (lv : Int) (b0 b1 b2 b3 : Nat) (W : World) : Prop where
  h0 : W.heap[b0]? = some (.cells #[vd, .int .i64 most, .int .i64 room] 24 (0, 0))
  h1 : W.heap[b1]? = some (.cells #[.int .i64 i] 3 (0, 0))
  h2 : W.heap[b2]? = some (.cells #[.string (bs p)] 9 (0, 0))
  h3 : W.heap[b3]? = some (.cells #[.int .i64 lv] 3 (0, 0))
theorem from_c (ao : Option Addr) (n cap : Nat) (most room i : Int) (p : Nm) (lv : Int) (w : World) :
    Calls Try.prog 32 #[.agg #[.slice ao n cap, .int .i64 most, .int .i64 room], .int .i64 i, .string (bs p), .int .i64 lv] w fun e w' =>
      e = .returned (.func (.func 39) #[] #[.pointer (some ⟨w.heap.size, 0, none⟩), .pointer (some ⟨w.heap.size + 1, 0, none⟩), .pointer (some ⟨w.heap.size + 3, 0, none⟩), .pointer (some ⟨w.heap.size + 2, 0, none⟩)])
      ∧ Below w.heap.size w w' ∧ HoldsF (.slice ao n cap) most room i p lv w.heap.size (w.heap.size + 1) (w.heap.size + 2) (w.heap.size + 3) w' ∧ w'.heap.size = w.heap.size + 4 := by
  go_enter Try.func32, Try.ntmps32
  go_wp2_with fail
  refine fresh4 (P := fun W => bodyPost _ _ _ _ _ W) ?_
  intro W hb h0 h1 h2 h3 hs
  go_ret
  exact ⟨rfl, hb, ⟨h0, h1, h2, h3⟩, hs⟩
theorem cells6 {W : World} {b : Nat} {u0 u1 u2 u3 u4 u5 : Value} {t : TypeId} {f : Nat × Nat} (h : W.heap[b]? = some (.cells #[u0, u1, u2, u3, u4, u5] t f)) :
    W.cell? ⟨b, 0, none⟩ = some u0 ∧ W.cell? ⟨b, 1, none⟩ = some u1 ∧ W.cell? ⟨b, 2, none⟩ = some u2 ∧ W.cell? ⟨b, 3, none⟩ = some u3 ∧ W.cell? ⟨b, 4, none⟩ = some u4 ∧ W.cell? ⟨b, 5, none⟩ = some u5 := by
  refine ⟨?_, ?_, ?_, ?_, ?_, ?_⟩ <;> (rw [Lib.cell_of_heap h]; rfl)
theorem flat_lt {α β : Type} (f : α → List β) (x0 : β) : ∀ (es : List α) (k : Nat) (hk : k < es.length) (q : List β), q.length < (f es[k]).length → (x0 :: (es.take k).flatMap f ++ q).length < (x0 :: es.flatMap f).length := by
  intro es k hk q hq
  have h : es.flatMap f = (es.take k).flatMap f ++ (f es[k] ++ (es.drop (k + 1)).flatMap f) := by
    conv => lhs; rw [← List.take_append_drop k es, List.drop_eq_getElem_cons hk, List.flatMap_append, List.flatMap_cons]
  rw [h]
  simp only [List.length_cons, List.length_append]
  omega
theorem flat_step {α β : Type} (f : α → List β) (x0 : β) (es : List α) (k : Nat) (hk : k < es.length) : x0 :: (es.take (k + 1)).flatMap f = x0 :: (es.take k).flatMap f ++ f es[k] := by
  rw [List.take_succ_eq_append_getElem hk, List.flatMap_append]
  simp
theorem join_len (a b : List UInt8) : (joinL a b).length ≤ a.length + 1 + b.length := by
  unfold joinL
  split
  · omega
  · split
    · omega
    · split <;> simp <;> omega
end Go.Proofs.Ytilhiafmljmljaa
