import Derived.Lib.TrimByte
import Derived.Lib.Bytealg
import Derived.Test.YtilhiafmljmljaaDoorR11
import Derived.Test.YtilhiafmljmljaaDoorShelf
import Derived.Lib.Strings
import Derived.Laws.OwnMore
namespace Go.Proofs.YtilhiafmljmljaaDoor
def sp : Nat → Option Nat → List UInt8 → List (Nat × Nat)
  | _, none, [] => []
  | i, some s, [] => [(s, i)]
  | i, none, c :: r => if c = 47 then sp (i + 1) none r else sp (i + 1) (some i) r
  | i, some s, c :: r => if c = 47 then (s, i) :: sp (i + 1) none r else sp (i + 1) (some s) r
def spans (l : List UInt8) : List (Nat × Nat) := sp 0 none l
def cutS (l : List UInt8) (p : Nat × Nat) : List UInt8 := (l.take p.2).drop p.1
def parts (l : List UInt8) : List (List UInt8) := (spans l).map (cutS l)
def pend (l : List UInt8) (k : Nat) : Nat := k + ((l.drop k).takeWhile (fun c => c != 47)).length
theorem pend_le (l : List UInt8) (k : Nat) (hk : k ≤ l.length) : pend l k ≤ l.length := by
  unfold pend
  have := (List.takeWhile_sublist (fun c : UInt8 => c != 47) (l := l.drop k)).length_le
  simp at this; omega
theorem pend_gt (l : List UInt8) (k : Nat) (hk : k < l.length) (h : l[k] ≠ 47) : k < pend l k := by
  unfold pend
  rw [List.drop_eq_getElem_cons hk, List.takeWhile_cons, if_pos (by simpa using h)]
  simp
theorem indexByte_eq (l : List UInt8) (c : UInt8) : Lib.indexByte l c = if c ∈ l then ((l.takeWhile (fun x => x != c)).length : Int) else -1 := by
  induction l with
  | nil => simp [Lib.indexByte]
  | cons b r ih =>
    unfold Lib.indexByte
    by_cases hb : b = c
    · subst hb; simp
    · have hcb : c ≠ b := fun h => hb h.symm
      simp only [beq_iff_eq, hb, if_false, ih, List.mem_cons, hcb, false_or]
      by_cases hm : c ∈ r
      · simp only [hm, if_true]
        rw [if_neg (by omega)]
        simp [hb]
      · simp [hm]
theorem takeWhile_all (l : List UInt8) (c : UInt8) (h : c ∉ l) : l.takeWhile (fun x => x != c) = l := by
  induction l with
  | nil => rfl
  | cons b r ih =>
    simp only [List.mem_cons, not_or] at h
    have hb : b ≠ c := fun e => h.1 e.symm
    simp [hb, ih h.2]
theorem pend_yes (l : List UInt8) (k : Nat) (h : (47 : UInt8) ∈ l.drop k) : (k : Int) + Lib.indexByte (l.drop k) 47 = pend l k := by
  rw [indexByte_eq, if_pos h]; unfold pend; simp
theorem pend_no (l : List UInt8) (k : Nat) (hk : k ≤ l.length) (h : (47 : UInt8) ∉ l.drop k) : (l.length : Int) = pend l k := by
  unfold pend; rw [takeWhile_all _ _ h]; simp; omega
theorem index_yes (l : List UInt8) (k : Nat) (h : (47 : UInt8) ∈ l.drop k) : 0 ≤ Lib.indexByte (l.drop k) 47 := by rw [indexByte_eq, if_pos h]; omega
theorem index_no (l : List UInt8) (k : Nat) (h : (47 : UInt8) ∉ l.drop k) : Lib.indexByte (l.drop k) 47 = -1 := by rw [indexByte_eq, if_neg h]
theorem sp_some (s : Nat) : ∀ (r : List UInt8) (i : Nat), sp i (some s) r = (s, i + (r.takeWhile (fun c => c != 47)).length) :: sp (i + (r.takeWhile (fun c => c != 47)).length) none (r.drop (r.takeWhile (fun c => c != 47)).length) := by
  intro r
  induction r with
  | nil => intro i; simp [sp]
  | cons c r ih =>
    intro i
    by_cases hc : c = 47
    · subst hc; simp [sp]
    · rw [sp, if_neg hc, ih]
      simp [hc]
      have e : i + 1 + (List.takeWhile (fun c => c != 47) r).length = i + ((List.takeWhile (fun c => c != 47) r).length + 1) := by omega
      rw [e]; exact ⟨rfl, rfl⟩
theorem sp_end (l : List UInt8) : sp l.length none (l.drop l.length) = [] := by simp [sp]
theorem sp_slash (l : List UInt8) (k : Nat) (hk : k < l.length) (h : l[k] = 47) : sp k none (l.drop k) = sp (k + 1) none (l.drop (k + 1)) := by
  rw [List.drop_eq_getElem_cons hk, sp, if_pos h]
theorem sp_part (l : List UInt8) (k : Nat) (hk : k < l.length) (h : l[k] ≠ 47) : sp k none (l.drop k) = (k, pend l k) :: sp (pend l k) none (l.drop (pend l k)) := by
  have e := sp_some k (l.drop k) k
  have e1 : sp k (some k) (l.drop k) = sp k none (l.drop k) := by
    rw [List.drop_eq_getElem_cons hk, sp, sp, if_neg h, if_neg h]
  rw [← e1, e]
  unfold pend
  rw [List.drop_drop]
theorem sp_bd : ∀ (r : List UInt8) (i : Nat) (st : Option Nat), (∀ s, st = some s → s < i) → ∀ p ∈ sp i st r, st.getD i ≤ p.1 ∧ p.1 < p.2 ∧ p.2 ≤ i + r.length := by
  intro r
  induction r with
  | nil =>
    intro i st hst p hp
    cases st with
    | none => simp [sp] at hp
    | some s => simp [sp] at hp; subst hp; have := hst s rfl; simp; omega
  | cons c r ih =>
    intro i st hst p hp
    cases st with
    | none =>
      rw [sp] at hp
      split at hp
      · have := ih (i + 1) none (by simp) p hp; simp at this ⊢; omega
      · have := ih (i + 1) (some i) (by simp) p hp; simp at this ⊢; omega
    | some s =>
      have hs := hst s rfl
      rw [sp] at hp
      split at hp
      · simp only [List.mem_cons] at hp
        rcases hp with rfl | hp
        · simp; omega
        · have := ih (i + 1) none (by simp) p hp; simp at this ⊢; omega
      · have := ih (i + 1) (some s) (by simp; omega) p hp; simp at this ⊢; omega
theorem spans_bd (l : List UInt8) (p : Nat × Nat) (h : p ∈ spans l) : p.1 < p.2 ∧ p.2 ≤ l.length := by
  have := sp_bd l 0 none (by simp) p h; simp at this; omega
theorem sp_len : ∀ (r : List UInt8) (i : Nat) (st : Option Nat), (sp i st r).length ≤ r.length + (if st = none then 0 else 1) := by
  intro r
  induction r with
  | nil => intro i st; cases st <;> simp [sp]
  | cons c r ih =>
    intro i st
    cases st with
    | none =>
      rw [sp]
      split
      · have := ih (i + 1) none; simp at this ⊢; omega
      · have := ih (i + 1) (some i); simp at this ⊢; omega
    | some s =>
      rw [sp]
      split
      · have := ih (i + 1) none; simp at this ⊢; omega
      · have := ih (i + 1) (some s); simp at this ⊢; omega
theorem spans_len (l : List UInt8) : (spans l).length ≤ l.length := by have := sp_len l 0 none; simpa [spans] using this
end Go.Proofs.YtilhiafmljmljaaDoor
namespace Go.Proofs.YtilhiafmljmljaaDoor
open Go.RowKit Go.Shelf
attribute [local go_sem] Oper.semAt_some wide_fn wide_depth
set_option maxHeartbeats 400000 in
theorem partEnd_any (s : ByteArray) (k : Nat) (w : World) (hk : k ≤ s.size) (hs : s.size ≤ 65000) :
    Calls Tryd.prog 76 #[.string s, .int .i64 k] w fun e w' => e = .returned (.int .i64 (pend s.data.toList k)) ∧ w = w' := by
  by_cases hm : (47 : UInt8) ∈ s.data.toList.drop k
  · have h0 := index_yes _ _ hm
    have h1 := pend_yes _ _ hm
    have h2 := pend_le s.data.toList k (by rw [data_len]; exact hk)
    rw [data_len] at h2
    rw [← take_drop] at h0 h1
    have h3 : (k : Int) + Lib.indexByte (List.take (s.size - k) (List.drop k s.data.toList)) 47 ≤ 65000 := by omega
    have H := Lib.hid h1
    clear h1 h2 hm
    go_enter Tryd.func76, Tryd.ntmps76
    go_wp2_with (go_at_call 65; refine (Tryd.strings_IndexByte _ _ _).mono ?_; rintro e w' ⟨rfl, rfl⟩)
    go_ret
    exact ⟨ret_int H.out, rfl⟩
  · have h0 : Lib.indexByte (List.take (s.size - k) (List.drop k s.data.toList)) 47 < 0 := by rw [take_drop, index_no _ _ hm]; decide
    have h1 := pend_no s.data.toList k (by rw [data_len]; exact hk) hm
    rw [data_len] at h1
    have H := Lib.hid h1
    clear h1 hm
    go_enter Tryd.func76, Tryd.ntmps76
    go_wp2_with (go_at_call 65; refine (Tryd.strings_IndexByte _ _ _).mono ?_; rintro e w' ⟨rfl, rfl⟩)
    go_ret
    exact ⟨ret_int H.out, rfl⟩
abbrev Span (s : ByteArray) := { p : Nat × Nat // p.1 < p.2 ∧ p.2 ≤ s.size }
abbrev encP {s : ByteArray} (p : Span s) : Array Value := #[.int .i64 p.1.1, .int .i64 p.1.2]
set_option maxRecDepth 100000 in
set_option maxHeartbeats 1000000 in
theorem spansIt (s : ByteArray) (hs : s.size ≤ 65000) (l Bn n : Nat) (J Jx : List (Span s) → World → Prop)
    (hY : ∀ pre x W, J pre W → pre.length < (spans s.data.toList).length → YieldAt Fence.wide (n - 1) Tryd.prog l (encP x) W fun e W' =>
      (e = .returned (.bool true) ∧ J (pre ++ [x]) W' ∧ KeepsBox Bn W W') ∨ (e = .returned (.bool false) ∧ Jx (pre ++ [x]) W'))
    (W : World) (hBn : W.cell? ⟨Bn, 0, none⟩ = some (.string s)) (h0 : J [] W) :
    CallsIn Fence.wide n Tryd.prog 75 #[.func (.yield l) #[] #[], .pointer (some ⟨Bn, 0, none⟩)] W fun e W' => (∃ v, e = .returned v) ∧
      ((∃ ys : List (Span s), ys.map (·.1) = spans s.data.toList ∧ J ys W') ∨ (∃ pre : List (Span s), pre.map (·.1) <+: spans s.data.toList ∧ Jx pre W')) := by
  refine callsIn_of_wp Tryd.func75 rfl trivial ?_ rfl
  simp only [Tryd.ntmps75, List.size_toArray, List.length_cons, List.length_nil, Nat.reduceAdd, Nat.reduceSub, Array.replicate_succ, Array.replicate_zero, List.push_toArray, List.append_toArray, List.nil_append, List.cons_append]
  gi_wp2
  gi_loopw [3] (fun i wr => ∃ (pre : List (Span s)) (k : Nat), i = .int .i64 k ∧ k ≤ s.size ∧ pre.map (·.1) ++ sp k none (s.data.toList.drop k) = spans s.data.toList ∧ wr.cell? ⟨Bn, 0, none⟩ = some (.string s) ∧ J pre wr)
    (fun i _ => s.size - (intOf i).toNat)
  case atStart => exact ⟨[], 0, rfl, Nat.zero_le _, rfl, hBn, h0⟩
  case round =>
    obtain ⟨pre, k, rfl, hk, hpre, hB, hJ⟩ := hrel
    have Hpre := Lib.hid hpre
    clear hpre
    by_cases hlt : k < s.size
    · by_cases hc : s[k] = 47
      · have hcI : ((s[k].toNat : Int) == 47) = true := by rw [hc]; rfl
        have Hc := Lib.hid hc
        clear hc
        gi_wp2
        go_roundw
        case rel => exact ⟨pre, k + 1, by go_num, by omega, by rw [← sp_slash _ _ (by rw [data_len]; exact hlt) Hc.out]; exact Hpre.out, hB, hJ⟩
        case measure => simp [intOf]; omega
      · have hcI : ((s[k].toNat : Int) == 47) = false := by
          rw [beq_eq_false_iff_ne]; intro h; exact hc (UInt8.toNat_inj.1 (by have e : (47 : UInt8).toNat = 47 := rfl; omega))
        have hpe := pend_le s.data.toList k (by rw [data_len]; omega)
        rw [data_len] at hpe
        have hpg := pend_gt s.data.toList k (by rw [data_len]; exact hlt) hc
        have hsp := Hpre.out
        rw [sp_part _ _ (by rw [data_len]; exact hlt) hc] at hsp
        have hln : pre.length < (spans s.data.toList).length := by rw [← hsp]; simp
        have hpx : k < pend s.data.toList k ∧ pend s.data.toList k ≤ s.size := ⟨hpg, hpe⟩
        obtain ⟨fn, tmps, assign, body, hy, hR⟩ := hY pre ⟨(k, pend s.data.toList k), hpx⟩ wr hJ hln
        have Hsp := Lib.hid hsp
        clear hsp hc hln
        dsimp only [encP] at hy
        gi_wp2_with (gi_at_call 76; refine (callsIn_wide.2 (partEnd_any _ _ _ (by omega) (by omega))).mono ?_; rintro e w' ⟨rfl, rfl⟩)
        refine hR.mono ?_
        rintro e W3 (⟨rfl, hJ3, hk3⟩ | ⟨rfl, hJx3⟩)
        · have hB3 : W3.cell? ⟨Bn, 0, none⟩ = some (.string s) := Eq.trans hk3 hB
          gi_wp2
          go_roundw
          case rel => exact ⟨pre ++ [⟨(k, pend s.data.toList k), hpx⟩], pend s.data.toList k, rfl, hpe, by simpa using Hsp.out, hB3, hJ3⟩
          case measure => simp [intOf]; omega
        · gi_wp2
          refine bodyPost_ret (results_none rfl _ _ _) rfl ?_
          exact ⟨⟨_, rfl⟩, .inr ⟨pre ++ [⟨(k, pend s.data.toList k), hpx⟩], ⟨_, by simpa using Hsp.out⟩, hJx3⟩⟩
    · obtain rfl : k = s.size := by omega
      gi_wp2
      go_end0
      refine ⟨⟨_, rfl⟩, .inl ⟨pre, ?_, hJ⟩⟩
      have e : sp s.size none (s.data.toList.drop s.size) = [] := by have := sp_end s.data.toList; rwa [data_len] at this
      have := Hpre.out
      rw [e] at this
      simpa using this
theorem spans_any (s : ByteArray) (w : World) :
    Calls Tryd.prog 66 #[.string s] w fun e w' => e = .returned (.func (.func 75) #[] #[.pointer (some ⟨w.heap.size, 0, none⟩)]) ∧ w' = w.alloc (.cells #[.string s] 9) := by
  go_enter Tryd.func66, Tryd.ntmps66
  go_wp2
  go_ret
  exact ⟨rfl, rfl⟩
theorem spans_stops (s : ByteArray) (hs : s.size ≤ 65000) (n Bn : Nat) (w : World) (hBn : Bn < w.heap.size) (hc : w.cell? ⟨Bn, 0, none⟩ = some (.string s)) :
    SeqStopsK Fence.wide n Tryd.prog 75 #[.pointer (some ⟨Bn, 0, none⟩)] (encP (s := s)) (KeepsBox Bn) (fun ys => ys.map (·.1) = spans s.data.toList) (fun pre => pre.map (·.1) <+: spans s.data.toList) (spans s.data.toList).length w := fun l J Jx W hW _ _ hY h0 =>
  spansIt s hs l Bn n J Jx hY W ((hW.cell (p := ⟨Bn, 0, none⟩) hBn).trans hc) h0
end Go.Proofs.YtilhiafmljmljaaDoor
namespace Go.Proofs.YtilhiafmljmljaaDoor
open Go.RowKit Go.Shelf
attribute [local go_sem] Oper.semAt_some wide_fn wide_depth
theorem infoStr : (Tryd.prog.info? 9).map (fun i => (i.zero, i.size, i.bytes)) = some (some (.string ByteArray.empty), 1, 16) := by kernel_rfl
set_option maxRecDepth 100000 in
set_option maxHeartbeats 1000000 in
theorem split_any (s : ByteArray) (hs : s.size ≤ 65000) (w : World) :
    Calls Tryd.prog 53 #[.string s] w fun e W' => ∃ v, e = .returned (.tuple #[v, .bool (Lib.hasPrefix s.data.toList [47]), .bool (Lib.hasSuffix s.data.toList [47])]) ∧
      W'.ownsRow w.heap.size 9 1 v (parts s.data.toList).length (strs (parts s.data.toList)) ∧ Below w.heap.size w W' := by
  refine (callsIn_wide (n := 5)).1 ?_
  obtain ⟨i0, hi, hz0, hz1, hz2⟩ := info_parts infoStr
  refine callsIn_of_wp_marks Tryd.func53 rfl trivial ?_ rfl
  simp only [Tryd.ntmps53, List.size_toArray, List.length_cons, List.length_nil, Nat.reduceAdd, Nat.reduceSub, Array.replicate_succ, Array.replicate_zero, List.push_toArray, List.append_toArray, List.nil_append, List.cons_append]
  gi_wp2_with (gi_at_call 66; refine (callsIn_wide.2 (spans_any _ _)).mono ?_; rintro e w' ⟨rfl, rfl⟩)
  have bP := ((Boxed.new w 9 (.string s)).alloc (.cells #[.slice none 0 0] 71)).alloc (.cells #[.string s] 9)
  have bO := (Boxed.new (w.alloc (.cells #[.string s] 9)) 71 (.slice none 0 0)).alloc (.cells #[.string s] 9)
  have bB := Boxed.new ((w.alloc (.cells #[.string s] 9)).alloc (.cells #[.slice none 0 0] 71)) 9 (.string s)
  rw [World.size_alloc] at bO bB
  rw [World.size_alloc] at bB
  have hB0 : Below w.heap.size w (((w.alloc (.cells #[.string s] 9)).alloc (.cells #[.slice none 0 0] 71)).alloc (.cells #[.string s] 9)) := (((Below.refl _ w).alloc (Nat.le_refl _) _).alloc (by simp) _).alloc (by simp; omega) _
  refine wpIn_rangeFunc_ownG rfl (by decide) (gf := 75) (lb := #[.pointer (some ⟨w.heap.size + 1 + 1, 0, none⟩)]) rfl trivial (enters_of Tryd.func75 (by kernel_rfl) rfl)
    (spans_stops s hs (5 - 1) (w.heap.size + 1 + 1) _ (by simp) bB.cell) keepsBox_t (keepsBox_b (by simp)) (Below.refl _ _) (fun _ => rfl)
    (fun pre W => (∃ v, Boxed W (w.heap.size + 1) 71 v ∧ W.ownsRow w.heap.size 9 1 v pre.length (strs (pre.map fun p => cutS s.data.toList p.1)) ∧ (∀ g, v.ownBlock = some g → w.heap.size + 3 ≤ g)) ∧ Boxed W w.heap.size 9 (.string s) ∧ Boxed W (w.heap.size + 1 + 1) 9 (.string s) ∧ Below w.heap.size w W)
    (fun _ _ _ => False)
    (OwnFrom.and (Own.from (holdsRow_own w.heap.size (w.heap.size + 1) 71 9 1 (fun pre : List (Span s) => pre.length) (fun pre => strs (pre.map fun p => cutS s.data.toList p.1)) (fun _ v => ∀ g, v.ownBlock = some g → w.heap.size + 3 ≤ g)) _)
      (OwnFrom.and (Own.from (boxed_own _ _ _) _) (OwnFrom.and (Own.from (boxed_own _ _ _) _) (ownFrom_below (Nat.le_refl _) (by simp; omega)))))
    (fun _ _ _ _ _ hs _ _ => hs)
    ⟨⟨_, bO, World.ownsRow_nil _ _ _ _, fun _ h => (by cases h)⟩, bP, bB, hB0⟩
    (fun x => { tmps := #[.string s, .pointer (some ⟨w.heap.size, 0, none⟩), .slice none 0 0, .bool false, .bool false, .pointer (some ⟨w.heap.size + 1, 0, none⟩), .int .i64 x.1.1, .int .i64 x.1.2, .string s,
      .func (.func 75) #[] #[.pointer (some ⟨w.heap.size + 1 + 1, 0, none⟩)], .int .i64 x.1.1, .int .i64 x.1.2, undef, undef, undef, undef, undef, undef, undef, undef, undef, undef, undef, undef], defers := [] }) ?assign ?body ?done ?stop
  case assign =>
    intro l x W K hK
    dsimp only [encP]
    gi_wp2
    exact hK
  case body =>
    rintro l pre ⟨⟨x, y⟩, hxy, hy⟩ W ⟨⟨v, hv, hrow, hfar⟩, hp, hb, hB⟩ hlt
    dsimp only at hxy hy ⊢
    gi_wp2
    refine region_round_inv (I := fun listed a' w' => ∃ (b0 b1 b2 b3 b4 b5 b6 b7 : Bool) (t12 t13 t14 t15 t16 t17 t18 : Value), listed = #[b0, b1, b2, b3, b4, b5, b6, b7] ∧
      a' = { tmps := #[.string s, .pointer (some ⟨w.heap.size, 0, none⟩), .slice none 0 0, .bool false, .bool false, .pointer (some ⟨w.heap.size + 1, 0, none⟩), .int .i64 x, .int .i64 y, .string s,
        .func (.func 75) #[] #[.pointer (some ⟨w.heap.size + 1 + 1, 0, none⟩)], .int .i64 x, .int .i64 y, t12, t13, t14, t15, t16, t17, t18, undef, undef, undef, undef, undef], defers := [] } ∧
      (b0 = true → t12 = v) ∧ (b1 = true → t13 = .string s) ∧ (b2 = true → t14 = .int .i64 x) ∧ (b3 = true → t15 = .int .i64 y) ∧ (b4 = true → t16 = .string ⟨(cutS s.data.toList (x, y)).toArray⟩) ∧
      (b4 = true → b1 = true ∧ b2 = true ∧ b3 = true) ∧ (b5 = true → b4 = true) ∧ (b6 = true → b0 = true ∧ b5 = true) ∧ (b7 = true → b6 = true) ∧ (b5 = false → w' = W.drew) ∧
      (b5 = true → b6 = false → t17 = .slice (some ⟨W.heap.size, 0, none⟩) 1 1 ∧ w' = W.drew.alloc (.cells #[.string ⟨(cutS s.data.toList (x, y)).toArray⟩] 9)) ∧
      (b6 = true → b7 = false → ∃ g cap, t18 = .slice (some ⟨g, 0, none⟩) (pre.length + 1) cap ∧ w'.ownsRow w.heap.size 9 1 t18 (pre.length + 1) (strs (pre.map fun p => cutS s.data.toList p.1) ++ [.string ⟨(cutS s.data.toList (x, y)).toArray⟩]) ∧
        (W.drew.alloc (.cells #[.string ⟨(cutS s.data.toList (x, y)).toArray⟩] 9)).grownBy w' v.ownBlock ∧ (v.ownBlock = some g ∨ g = W.heap.size + 1)) ∧
      (b7 = true → ∃ w1 g cap, w1.ownsRow w.heap.size 9 1 (.slice (some ⟨g, 0, none⟩) (pre.length + 1) cap) (pre.length + 1) (strs (pre.map fun p => cutS s.data.toList p.1) ++ [.string ⟨(cutS s.data.toList (x, y)).toArray⟩]) ∧
        (W.drew.alloc (.cells #[.string ⟨(cutS s.data.toList (x, y)).toArray⟩] 9)).grownBy w1 v.ownBlock ∧ (v.ownBlock = some g ∨ g = W.heap.size + 1) ∧ w' = w1.setCell ⟨w.heap.size + 1, 0, none⟩ (.slice (some ⟨g, 0, none⟩) (pre.length + 1) cap)))
      (by kernel_rfl) (by kernel_rfl) (fun ⟨_, _, h⟩ => h) ?start ?step ?fin
    case start => exact ⟨false, false, false, false, false, false, false, false, undef, undef, undef, undef, undef, undef, undef, rfl, rfl, by simp, by simp, by simp, by simp, by simp, by simp, by simp, by simp, by simp, fun _ => rfl, by simp, by simp, by simp⟩
    case step =>
      rintro listed i o a' w' K hsz hi ho ⟨b0, b1, b2, b3, b4, b5, b6, b7, t12, t13, t14, t15, t16, t17, t18, rfl, rfl, h12, h13, h14, h15, h16, c4, c5, c6, c7, hw0, hw1, hw2, hw3⟩ hK
      obtain ⟨h1, o', ho', hall⟩ := mem_ready.1 hi
      obtain rfl : o' = o := Option.some.inj (ho'.symm.trans ho)
      have hlt : i < 8 := (Array.getElem?_eq_some_iff.1 ho).1
      clear hi ho'
      have hcas : i = 0 ∨ i = 1 ∨ i = 2 ∨ i = 3 ∨ i = 4 ∨ i = 5 ∨ i = 6 ∨ i = 7 := by omega
      rcases hcas with rfl | rfl | rfl | rfl | rfl | rfl | rfl | rfl
      all_goals
        simp only [List.getElem?_toArray, List.getElem?_cons_zero, List.getElem?_cons_succ, Option.some.injEq] at ho
        subst ho
        simp [Region.binds] at hall h1
      · -- the load of the list's box
        subst h1
        obtain rfl := bf (fun h => (c6 h).1) rfl
        obtain rfl := bf c7 rfl
        have hc : w'.cell? ⟨w.heap.size + 1, 0, none⟩ = some v := by
          cases b5
          · rw [hw0 rfl]; exact hv.cell
          · rw [(hw1 rfl rfl).2]; exact (Boxed.alloc (W := W.drew) hv _).cell
        go_simp
        exact hK _ _ ⟨true, b1, b2, b3, b4, b5, false, false, v, t13, t14, t15, t16, t17, t18, rfl, rfl, fun _ => rfl, h13, h14, h15, h16, c4, c5, by simp, by simp, hw0, hw1, by simp, by simp⟩
      · -- the load of the path's box
        subst h1
        obtain rfl := bf (fun h => (c4 h).1) rfl
        obtain rfl := bf c5 rfl
        obtain rfl := bf (fun h => (c6 h).2) rfl
        obtain rfl := bf c7 rfl
        obtain rfl := hw0 rfl
        have hc : W.cell? ⟨w.heap.size, 0, none⟩ = some (.string s) := hp.cell
        go_simp
        exact hK _ _ ⟨b0, true, b2, b3, false, false, false, false, t12, _, t14, t15, t16, t17, t18, rfl, rfl, h12, fun _ => rfl, h14, h15, h16, by simp, by simp, by simp, by simp, hw0, hw1, by simp, by simp⟩
      · subst h1
        obtain rfl := bf (fun h => (c4 h).2.1) rfl
        go_simp
        exact hK _ _ ⟨b0, b1, true, b3, false, b5, b6, b7, t12, t13, _, t15, t16, t17, t18, rfl, rfl, h12, h13, fun _ => rfl, h15, h16, by simp, c5, c6, c7, hw0, hw1, hw2, hw3⟩
      · subst h1
        obtain rfl := bf (fun h => (c4 h).2.2) rfl
        go_simp
        exact hK _ _ ⟨b0, b1, b2, true, false, b5, b6, b7, t12, t13, t14, _, t16, t17, t18, rfl, rfl, h12, h13, h14, fun _ => rfl, h16, by simp, c5, c6, c7, hw0, hw1, hw2, hw3⟩
      · -- the piece
        subst h1
        obtain ⟨rfl, rfl, rfl⟩ := hall
        obtain rfl := h13 rfl
        obtain rfl := h14 rfl
        obtain rfl := h15 rfl
        have g1 : (0 : Int) ≤ x := by omega
        have g2 : (x : Int) ≤ y := by omega
        have g3 : (y : Int) ≤ s.size := by omega
        go_simp
        refine hK _ _ ⟨b0, true, true, true, true, b5, b6, b7, t12, _, _, _, _, t17, t18, rfl, rfl, h12, fun _ => rfl, fun _ => rfl, fun _ => rfl, fun _ => ?_, by simp, fun _ => rfl, c6, c7, hw0, hw1, hw2, hw3⟩
        rw [extract_eq]; rfl
      · -- the new block
        subst h1
        subst hall
        obtain rfl := bf (fun h => (c6 h).2) rfl
        obtain rfl := bf c7 rfl
        obtain rfl := hw0 rfl
        obtain ⟨rfl, rfl, rfl⟩ := c4 rfl
        obtain rfl := h13 rfl
        obtain rfl := h14 rfl
        obtain rfl := h15 rfl
        obtain rfl := h16 rfl
        go_simp
        refine hK _ _ ⟨b0, true, true, true, true, true, false, false, t12, _, _, _, _, _, t18, rfl, rfl, h12, fun _ => rfl, fun _ => rfl, fun _ => rfl, fun _ => rfl, by simp, fun _ => rfl, by simp, by simp, by simp, fun _ _ => ⟨?_, ?_⟩, by simp, by simp⟩
        all_goals rfl
      · -- the append
        subst h1
        obtain ⟨rfl, rfl⟩ := hall
        obtain rfl := bf c7 rfl
        obtain ⟨rfl, rfl⟩ := hw1 rfl rfl
        obtain rfl := h12 rfl
        have hnl : pre.length ≤ 65000 := by have := spans_len s.data.toList; rw [data_len] at this; omega
        refine step_append_lies _ rfl (.tmp 12) (.tmp 17) 71 rfl w.heap.size 9 i0 (.string ByteArray.empty) 1 16 Tryd.underlying71 hi hz0 hz1 hz2 rfl (by decide) t12 pre.length _ rfl (World.ownsRow.alloc (w := W.drew) hrow _) ⟨W.heap.size, 0, none⟩ 1 1 [.string ⟨(cutS s.data.toList (x, y)).toArray⟩] rfl rfl ?_ ?_ (by decide) ?_ ?_ ?_ (W.heap.size + 1) ?_ ?_
        · intro j u hj
          cases j with
          | zero => simp only [List.getElem?_cons_zero, Option.some.injEq] at hj; subst hj; exact (Boxed.new W.drew 9 _).cell
          | succ j => simp at hj
        · intro u hu; simp only [List.mem_singleton] at hu; subst hu; rfl
        · unfold maxLen; omega
        · omega
        · have := hB.size; rw [World.size_alloc]; exact Nat.le_succ_of_le this
        · rw [World.size_alloc]; rfl
        · intro g cap w1 h1 h2 hlie _
          exact hK _ _ ⟨true, b1, b2, b3, b4, true, true, false, t12, t13, t14, t15, t16, _, _, rfl, rfl, fun _ => rfl, h13, h14, h15, h16, c4, c5, by simp, by simp, by simp, by simp, fun _ _ => ⟨g, cap, rfl, h1, h2, hlie⟩, by simp⟩
      · -- the store
        subst h1
        obtain rfl : b6 = true := by simp_all only
        obtain ⟨rfl, rfl⟩ := c6 rfl
        obtain rfl := c5 rfl
        obtain ⟨rfl, rfl, rfl⟩ := c4 rfl
        obtain rfl := h12 rfl
        obtain rfl := h13 rfl
        obtain rfl := h14 rfl
        obtain rfl := h15 rfl
        obtain rfl := h16 rfl
        obtain ⟨g, cap, rfl, h2, h3, h4⟩ := hw2 rfl rfl
        have hv1 := (Boxed.appended (W := W.drew) hv (by decide) (World.ownsRow.drew hrow) hB.size (Nat.le_succ _) h2 h3).1
        have hc1 := hv1.cell
        have hf1 := hv1.frozen
        clear hw0 hw1 hw2 hw3 hall
        go_simp
        exact hK _ _ ⟨true, true, true, true, true, true, true, true, _, _, _, _, _, t17, _, rfl, rfl, fun _ => rfl, fun _ => rfl, fun _ => rfl, fun _ => rfl, fun _ => rfl, by simp, by simp, by simp, by simp, by simp, by simp, by simp, fun _ => ⟨w', g, cap, h2, h3, h4, rfl⟩⟩
    case fin =>
      rintro listed a' w' hsz ⟨b0, b1, b2, b3, b4, b5, b6, b7, t12, t13, t14, t15, t16, t17, t18, rfl, rfl, h12, h13, h14, h15, h16, c4, c5, c6, c7, hw0, hw1, hw2, hw3⟩ hr
      have hb7 := ready_all (by kernel_rfl) hsz hr 7 (by decide)
      obtain rfl : b7 = true := hb7
      obtain ⟨w1, g, cap, h2, h3, h4, rfl⟩ := hw3 rfl
      obtain ⟨_, q2, q3, q4, q5⟩ := Boxed.appended (W := W.drew) hv (by decide) (World.ownsRow.drew hrow) hB.size (Nat.le_succ _) h2 h3
      have np : some w.heap.size ≠ v.ownBlock := fun e => by have := hfar _ e.symm; omega
      have nb : some (w.heap.size + 1 + 1) ≠ v.ownBlock := fun e => by have := hfar _ e.symm; omega
      have hp1 := ((Boxed.alloc (W := W.drew) hp _).kept h3 np).other (B' := w.heap.size + 1) (by omega) (.slice (some ⟨g, 0, none⟩) (pre.length + 1) cap)
      have hb1 := ((Boxed.alloc (W := W.drew) hb _).kept h3 nb).other (B' := w.heap.size + 1) (by omega) (.slice (some ⟨g, 0, none⟩) (pre.length + 1) cap)
      have hg : w.heap.size + 3 ≤ g := by
        rcases h4 with h4 | h4
        · exact hfar _ h4
        · have := hb.lt; omega
      refine ⟨((KeepsOthers.drew W).trans q4).from _, ?_, ⟨_, q2, ?_, fun g' e => by cases e; exact hg⟩, hp1, hb1, hB.trans (((Below.refl _ W).drew).trans q5)⟩
      · unfold KeepsBox; rw [hb1.cell, hb.cell]
      · simpa [strs] using q3
  case done =>
    rintro D ys W hD hys ⟨⟨v, hv, hrow, hfar⟩, hp, hb, hB⟩ hK
    have hc1 := hv.cell
    have hc2 := hp.cell
    gi_wp2
    refine wpIn_wide.2 ?_
    go_quiet ((first | (go_at_call 51; exact Calls.quiet_of_same ((Tryd.strings_HasPrefix _ _ _).mono fun e w' h => ⟨h.1, h.2⟩)) | (go_at_call 22; exact Calls.quiet_of_same ((Tryd.strings_HasSuffix _ _ _ (by omega)).mono fun e w' h => ⟨h.1, h.2⟩))))
    gi_wp2
    refine ⟨by simp, .inl ⟨_, _, rfl, run_takeDeferred (w := W.drewN nq) hK, ?_⟩⟩
    have e1 : (spans s.data.toList).length = ys.length := by rw [← hys]; simp
    have e2 : parts s.data.toList = ys.map fun p => cutS s.data.toList p.1 := by unfold parts; rw [← hys, List.map_map]; rfl
    refine ⟨.tuple #[v, .bool (Lib.hasPrefix s.data.toList [47]), .bool (Lib.hasSuffix s.data.toList [47])], ?_, v, rfl, ?_, ?_⟩
    · simp [results, Tryd.results53, go_sem]
    · rw [e2, List.length_map]
      exact ownsRow_putObj (ownsRow_drewN hrow nq) _ hK rfl
    · exact (below_drewN hB nq).trans (belowK_b (w := w) (Nat.le_refl _) _ D _ _ (by simp at hD; omega) hK rfl rfl)
  case stop =>
    rintro D c pre W _ _ h _
    exact h.elim
end Go.Proofs.YtilhiafmljmljaaDoor
namespace Go.Proofs.YtilhiafmljmljaaDoor
open Go.RowKit Go.Shelf
attribute [local go_sem] Oper.semAt_some wide_fn wide_depth
end Go.Proofs.YtilhiafmljmljaaDoor
namespace Go.Proofs.YtilhiafmljmljaaDoor
open Go.RowKit Go.Shelf
attribute [local go_sem] Oper.semAt_some wide_fn wide_depth
def checkE (l : List UInt8) : Int :=
  if l = [] then 2 else if 100 < l.length then 9 else if (0 : UInt8) ∈ l then 1 else if (spans l).any (fun p => decide (12 < p.2 - p.1)) then 9 else 0
theorem isEmpty_no (s : ByteArray) (h : s.data.toList ≠ []) : s.toList.isEmpty = false := by
  rw [Lib.toList_data]; cases e : s.data.toList with | nil => exact absurd e h | cons a r => rfl
theorem isEmpty_yes (s : ByteArray) (h : s.data.toList = []) : s.toList.isEmpty = true := by rw [Lib.toList_data, h]; rfl
theorem check_e0 {l : List UInt8} (h : l = []) : checkE l = 2 := by unfold checkE; rw [if_pos h]
theorem check_e1 {l : List UInt8} (h : l ≠ []) (h2 : 100 < l.length) : checkE l = 9 := by unfold checkE; rw [if_neg h, if_pos h2]
theorem check_e2 {l : List UInt8} (h : l ≠ []) (h2 : ¬ 100 < l.length) (h3 : (0 : UInt8) ∈ l) : checkE l = 1 := by unfold checkE; rw [if_neg h, if_neg h2, if_pos h3]
theorem check_e3 {l : List UInt8} (h : l ≠ []) (h2 : ¬ 100 < l.length) (h3 : (0 : UInt8) ∉ l) (h4 : ∃ p ∈ spans l, 12 < p.2 - p.1) : checkE l = 9 := by
  unfold checkE; rw [if_neg h, if_neg h2, if_neg h3, if_pos]
  obtain ⟨p, hp, hl⟩ := h4
  exact List.any_eq_true.2 ⟨p, hp, by simpa using hl⟩
theorem check_e4 {l : List UInt8} (h : l ≠ []) (h2 : ¬ 100 < l.length) (h3 : (0 : UInt8) ∉ l) (h4 : ∀ p ∈ spans l, p.2 - p.1 ≤ 12) : checkE l = 0 := by
  unfold checkE; rw [if_neg h, if_neg h2, if_neg h3, if_neg]
  intro hc
  obtain ⟨p, hp, hl⟩ := List.any_eq_true.1 hc
  have := h4 p hp; simp at hl; omega
def AllSmall {s : ByteArray} (pre : List (Span s)) : Prop := ∀ p ∈ pre, p.1.2 - p.1.1 ≤ 12
def SomeBig {s : ByteArray} (pre : List (Span s)) : Prop := ∃ p ∈ pre, 12 < p.1.2 - p.1.1
set_option maxRecDepth 100000 in
set_option maxHeartbeats 1000000 in
theorem check_walk (s : ByteArray) (hs : s.size ≤ 65000) (w : World) (h1 : s.data.toList ≠ []) (h2 : ¬ 100 < s.data.toList.length) (h3 : (0 : UInt8) ∉ s.data.toList) :
    Calls Tryd.prog 52 #[.string s] w fun e W' => e = .returned (.int .i64 (checkE s.data.toList)) ∧ Below w.heap.size w W' := by
  have n1 := isEmpty_no s h1
  have n2 : s.size ≤ 100 := by rw [data_len] at h2; omega
  have n3 : Lib.indexByte s.data.toList 0 < 0 := by rw [indexByte_eq, if_neg h3]; decide
  have m2 : decide ((100 : Int) < (s.size : Int)) = false := by simp; omega
  have m3 : decide (0 ≤ Lib.indexByte s.data.toList 0) = false := by simp; omega
  have H1 := Lib.hid h1
  have H2 := Lib.hid h2
  have H3 := Lib.hid h3
  clear h1 h2 h3
  refine (callsIn_wide (n := 5)).1 ?_
  refine callsIn_of_wp_marks Tryd.func52 rfl trivial ?_ rfl
  simp only [Tryd.ntmps52, List.size_toArray, List.length_cons, List.length_nil, Nat.reduceAdd, Nat.reduceSub, Array.replicate_succ, Array.replicate_zero, List.push_toArray, List.append_toArray, List.nil_append, List.cons_append]
  gi_wp2_with (first | (gi_at_call 65; refine (callsIn_wide.2 (Tryd.strings_IndexByte _ _ _)).mono ?_; rintro e w' ⟨rfl, rfl⟩) | (gi_at_call 66; refine (callsIn_wide.2 (spans_any _ _)).mono ?_; rintro e w' ⟨rfl, rfl⟩))
  have bO := (Boxed.new w 33 (.int .i64 0)).alloc (.cells #[.string s] 9)
  have bB := Boxed.new (w.alloc (.cells #[.int .i64 0] 33)) 9 (.string s)
  rw [World.size_alloc] at bB
  have hB0 : Below w.heap.size w ((w.alloc (.cells #[.int .i64 0] 33)).alloc (.cells #[.string s] 9)) := ((Below.refl _ w).alloc (Nat.le_refl _) _).alloc (by simp) _
  refine wpIn_rangeFunc_ownG rfl (by decide) (gf := 75) (lb := #[.pointer (some ⟨w.heap.size + 1, 0, none⟩)]) rfl trivial (enters_of Tryd.func75 (by kernel_rfl) rfl)
    (spans_stops s hs (5 - 1) (w.heap.size + 1) _ (by simp) bB.cell) keepsBox_t (keepsBox_b (by simp)) (Below.refl _ _) (fun _ => rfl)
    (fun pre W => Boxed W w.heap.size 33 (.int .i64 0) ∧ Boxed W (w.heap.size + 1) 9 (.string s) ∧ Below w.heap.size w W ∧ AllSmall pre)
    (fun c pre W => c = .ret ∧ Boxed W w.heap.size 33 (.int .i64 9) ∧ Below w.heap.size w W ∧ SomeBig pre)
    (OwnFrom.and (Own.from (boxed_own _ _ _) _) (OwnFrom.and (Own.from (boxed_own _ _ _) _) (OwnFrom.and (ownFrom_below (Nat.le_refl _) (by simp; omega)) (ownFrom_pure _ (fun pre : List (Span s) => AllSmall pre)))))
    (fun c => OwnFrom.and (ownFrom_pure _ (fun _ => c = .ret)) (OwnFrom.and (Own.from (boxed_own _ _ _) _) (OwnFrom.and (ownFrom_below (Nat.le_refl _) (by simp; omega)) (ownFrom_pure _ (fun pre : List (Span s) => SomeBig pre)))))
    ⟨bO, bB, hB0, by simp [AllSmall]⟩
    (fun x => { tmps := #[.string s, undef, .pointer (some ⟨w.heap.size, 0, none⟩), .int .i64 x.1.1, .int .i64 x.1.2, .bool false, .string s, .bool false, .bool false, .string s, .int .i64 s.size, .bool false, .bool false, .string s,
      .int .i64 (Lib.indexByte s.data.toList 0), .bool false, .string s, .func (.func 75) #[] #[.pointer (some ⟨w.heap.size + 1, 0, none⟩)], .int .i64 x.1.1, .int .i64 x.1.2, undef, undef, undef, undef], defers := [] }) ?assign ?body ?done ?stop
  case assign =>
    intro l x W K hK
    dsimp only [encP]
    gi_wp2
    exact hK
  case body =>
    rintro l pre ⟨⟨x, y⟩, hxy, hy⟩ W ⟨hv, hb, hB, hall⟩ hlt
    dsimp only at hxy hy ⊢
    have hc := hv.cell
    have hf := hv.frozen
    have HA := Lib.hid hall
    clear hall
    by_cases hd : 12 < y - x
    · have hd1 : (12 : Int) < (y : Int) - x := by omega
      gi_wp2
      refine ⟨(KeepsOthers.setCell _ _ _).from _, rfl, hv.set _, hB.setCell (p := ⟨w.heap.size, 0, none⟩) (Nat.le_refl _) _, ?_⟩
      exact ⟨⟨(x, y), hxy, hy⟩, by simp, hd⟩
    · have hd1 : ¬ (12 : Int) < (y : Int) - x := by omega
      gi_wp2
      refine ⟨KeepsFrom.refl _ _, rfl, hv, hb, hB, ?_⟩
      intro p hp
      rcases List.mem_append.1 hp with hp | hp
      · exact HA.out p hp
      · obtain rfl := List.mem_singleton.1 hp
        show y - x ≤ 12
        omega
  case done =>
    rintro D ys W hD hys ⟨hv, hb, hB, hall⟩ hK
    have hc := hv.cell
    have hf := hv.frozen
    have e0 : checkE s.data.toList = 0 := check_e4 H1.out H2.out H3.out fun p hp => by
      rw [← hys] at hp
      obtain ⟨q, hq, rfl⟩ := List.mem_map.1 hp
      exact hall q hq
    have E0 := Lib.hid e0
    clear e0 hys hall
    gi_wp2
    have hK' := (KeepsOthers.setCell W ⟨w.heap.size, 0, none⟩ (.int .i64 0)).same D _ hK rfl
    refine ⟨by simp, .inl ⟨_, _, rfl, run_takeDeferred hK', ?_⟩⟩
    have hc5 := cell_kept (hv.set (.int .i64 0)).cell (grownBy_putObj' _ D (.deferred none)) (fun r e => by cases e; exact ⟨_, hK', rfl⟩)
    refine ⟨.int .i64 0, ?_, by rw [E0.out], ?_⟩
    · simp [results, Tryd.f52, go_sem, hc5]
    · exact (hB.setCell (p := ⟨w.heap.size, 0, none⟩) (Nat.le_refl _) _).trans (belowK_b (w := w) (Nat.le_refl _) _ D _ _ (by simp at hD; omega) hK' rfl rfl)
  case stop =>
    rintro D c pre W hD hpre ⟨rfl, hv, hB, hex⟩ hK
    have hc := hv.cell
    have e0 : checkE s.data.toList = 9 := check_e3 H1.out H2.out H3.out (by
      obtain ⟨p, hp, hl⟩ := hex
      exact ⟨p.1, hpre.subset (List.mem_map.2 ⟨p, hp, rfl⟩), hl⟩)
    have E0 := Lib.hid e0
    clear e0 hpre hex
    gi_wp2
    refine ⟨by simp, .inl ⟨_, _, rfl, run_takeDeferred hK, ?_⟩⟩
    have hc5 := cell_kept hv.cell (grownBy_putObj' _ D (.deferred none)) (fun r e => by cases e; exact ⟨_, hK, rfl⟩)
    refine ⟨.int .i64 9, ?_, by rw [E0.out], ?_⟩
    · simp [results, Tryd.f52, go_sem, hc5]
    · exact hB.trans (belowK_b (w := w) (Nat.le_refl _) _ D _ _ (by simp at hD; omega) hK rfl rfl)
set_option maxHeartbeats 400000 in
theorem check_any (s : ByteArray) (hs : s.size ≤ 65000) (w : World) :
    Calls Tryd.prog 52 #[.string s] w fun e W' => e = .returned (.int .i64 (checkE s.data.toList)) ∧ Below w.heap.size w W' := by
  by_cases h1 : s.data.toList = []
  · have n1 := isEmpty_yes s h1
    have E := Lib.hid (check_e0 h1)
    clear h1
    go_enter Tryd.func52, Tryd.ntmps52
    go_wp2
    exact bodyPost_ret (v := .int .i64 2) (by simp [results, Tryd.f52, go_sem]) rfl ⟨by rw [E.out], (Below.refl _ _).alloc (Nat.le_refl _) _⟩
  · by_cases h2 : 100 < s.data.toList.length
    · have E := Lib.hid (check_e1 h1 h2)
      have n1 := isEmpty_no s h1
      have n2 : 100 < s.size := by rw [data_len] at h2; omega
      clear h1 h2
      go_enter Tryd.func52, Tryd.ntmps52
      go_wp2
      exact bodyPost_ret (v := .int .i64 9) (by simp [results, Tryd.f52, go_sem]) rfl ⟨by rw [E.out], (Below.refl _ _).alloc (Nat.le_refl _) _⟩
    · by_cases h3 : (0 : UInt8) ∈ s.data.toList
      · have E := Lib.hid (check_e2 h1 h2 h3)
        have n1 := isEmpty_no s h1
        have n2 : s.size ≤ 100 := by rw [data_len] at h2; omega
        have n3 : 0 ≤ Lib.indexByte s.data.toList 0 := by rw [indexByte_eq, if_pos h3]; omega
        clear h1 h2 h3
        go_enter Tryd.func52, Tryd.ntmps52
        go_wp2_with (go_at_call 65; refine (Tryd.strings_IndexByte _ _ _).mono ?_; rintro e w' ⟨rfl, rfl⟩)
        exact bodyPost_ret (v := .int .i64 1) (by simp [results, Tryd.f52, go_sem]) rfl ⟨by rw [E.out], (Below.refl _ _).alloc (Nat.le_refl _) _⟩
      · exact check_walk s hs w h1 h2 h3
end Go.Proofs.YtilhiafmljmljaaDoor
namespace Go.Proofs.YtilhiafmljmljaaDoor
open Go.RowKit Go.Shelf
attribute [local go_sem] Oper.semAt_some wide_fn wide_depth
end Go.Proofs.YtilhiafmljmljaaDoor
namespace Go.Proofs.YtilhiafmljmljaaDoor
open Go.RowKit Go.Shelf
def joinL (a b : List UInt8) : List UInt8 :=
  if a = [] ∨ Lib.hasPrefix b [47] = true then b else if b = [] then a else if Lib.hasSuffix a [47] = true then a ++ b else a ++ [47] ++ b
theorem ret_bytes {t : ByteArray} {l : List UInt8} (h : t.data.toList = l) : Ending.returned (.string t) = .returned (.string ⟨l.toArray⟩) := by subst h; simp
theorem isEmpty_iff (s : ByteArray) (b : Bool) (h : s.toList.isEmpty = b) : (s.data.toList = []) ↔ b = true := by
  rw [Lib.toList_data] at h; rw [← h]; simp
theorem join_1 {s t : ByteArray} (h : s.toList = []) : t.data.toList = joinL s.data.toList t.data.toList := by
  unfold joinL; rw [if_pos (.inl (by rw [← Lib.toList_data]; exact h))]
theorem join_2 {s t : ByteArray} (h : s.toList.isEmpty = true ∨ Lib.hasPrefix t.data.toList [47] = true) : t.data.toList = joinL s.data.toList t.data.toList := by
  unfold joinL; rw [if_pos (h.imp (fun h => (isEmpty_iff s _ h).2 rfl) id)]
theorem join_n {s t : ByteArray} (h : s.toList.isEmpty = false ∧ Lib.hasPrefix t.data.toList [47] = false) : ¬ (s.data.toList = [] ∨ Lib.hasPrefix t.data.toList [47] = true) := by
  rintro (h1 | h1)
  · cases (isEmpty_iff s _ h.1).1 h1
  · rw [h.2] at h1; cases h1
theorem join_3 {s t : ByteArray} (h : s.toList.isEmpty = false ∧ Lib.hasPrefix t.data.toList [47] = false) (h2 : t.toList.isEmpty = true) : s.data.toList = joinL s.data.toList t.data.toList := by
  unfold joinL; rw [if_neg (join_n h), if_pos ((isEmpty_iff t _ h2).2 rfl)]
theorem join_4 {s t : ByteArray} (h : s.toList.isEmpty = false ∧ Lib.hasPrefix t.data.toList [47] = false) (h2 : t.toList.isEmpty = false) (h3 : Lib.hasSuffix s.data.toList [47] = true) : (s ++ t).data.toList = joinL s.data.toList t.data.toList := by
  unfold joinL; rw [if_neg (join_n h), if_neg (fun e => by cases (isEmpty_iff t _ h2).1 e), if_pos h3]; simp
theorem join_5 {s t : ByteArray} (h : s.toList.isEmpty = false ∧ Lib.hasPrefix t.data.toList [47] = false) (h2 : t.toList.isEmpty = false) (h3 : Lib.hasSuffix s.data.toList [47] = false) : (s ++ ⟨#[47]⟩ ++ t).data.toList = joinL s.data.toList t.data.toList := by
  unfold joinL; rw [if_neg (join_n h), if_neg (fun e => by cases (isEmpty_iff t _ h2).1 e), if_neg (by rw [h3]; decide)]; simp
set_option maxHeartbeats 400000 in
theorem join_any (s t : ByteArray) (hs : s.size ≤ 65000) (ht : t.size ≤ 65000) (w : World) :
    Calls Tryd.prog 39 #[.string s, .string t] w fun e W' => e = .returned (.string ⟨(joinL s.data.toList t.data.toList).toArray⟩) ∧ W' = w := by
  go_enter Tryd.func39, Tryd.ntmps39
  go_wp2_with (first | (go_at_call 22; refine (Tryd.strings_HasSuffix _ _ _ (by omega)).mono ?_; rintro e w' ⟨rfl, rfl⟩) | (go_at_call 51; refine (Tryd.strings_HasPrefix _ _ _).mono ?_; rintro e w' ⟨rfl, rfl⟩))
  all_goals go_ret
  · exact ⟨ret_bytes (join_1 ‹_›), rfl⟩
  · exact ⟨ret_bytes (join_2 ‹_›), rfl⟩
  · exact ⟨ret_bytes (join_3 ‹_› ‹_›), rfl⟩
  · exact ⟨ret_bytes (join_4 ‹_› ‹_› ‹_›), rfl⟩
  · exact ⟨ret_bytes (join_5 ‹_› ‹_› ‹_›), rfl⟩
end Go.Proofs.YtilhiafmljmljaaDoor
namespace Go.Proofs.YtilhiafmljmljaaDoor
theorem sp_none_part (l : List UInt8) (k : Nat) (hk : k < l.length) (h : l[k] ≠ 47) : sp k none (l.drop k) = sp (k + 1) (some k) (l.drop (k + 1)) := by
  rw [List.drop_eq_getElem_cons hk, sp, if_neg h]
theorem sp_some_slash (l : List UInt8) (s k : Nat) (hk : k < l.length) (h : l[k] = 47) : sp k (some s) (l.drop k) = (s, k) :: sp (k + 1) none (l.drop (k + 1)) := by
  rw [List.drop_eq_getElem_cons hk, sp, if_pos h]
theorem sp_some_part (l : List UInt8) (s k : Nat) (hk : k < l.length) (h : l[k] ≠ 47) : sp k (some s) (l.drop k) = sp (k + 1) (some s) (l.drop (k + 1)) := by
  rw [List.drop_eq_getElem_cons hk, sp, if_neg h]
theorem sp_some_end (l : List UInt8) (s : Nat) : sp l.length (some s) (l.drop l.length) = [(s, l.length)] := by simp [sp]
def partOf (l : List UInt8) (k : Nat) : Option Nat → List UInt8
  | none => []
  | some s => cutS l (s, k)
theorem partOf_len (l : List UInt8) (k : Nat) (st : Option Nat) : (partOf l k st).length ≤ k := by
  cases st with
  | none => simp [partOf]
  | some s => simp [partOf, cutS]; omega
theorem cutS_snoc (l : List UInt8) (s k : Nat) (hs : s ≤ k) (hk : k < l.length) : cutS l (s, k + 1) = cutS l (s, k) ++ [l[k]] := by
  unfold cutS
  simp only
  rw [List.take_succ_eq_append_getElem hk, List.drop_append_of_le_length (by simp; omega)]
theorem cutS_self (l : List UInt8) (k : Nat) : cutS l (k, k) = [] := by unfold cutS; simp
theorem cutS_ne (l : List UInt8) (s k : Nat) (hs : s < k) (hk : k ≤ l.length) : cutS l (s, k) ≠ [] := by
  unfold cutS; intro h
  have := congrArg List.length h
  simp at this; omega
def RS (l : List UInt8) (k : Nat) (st : Option Nat) (xs : List (List UInt8)) : Prop :=
  xs ++ (sp k st (l.drop k)).map (cutS l) = parts l ∧ (∀ s, st = some s → s < k) ∧ (k = l.length → st = none) ∧ xs.length ≤ k
theorem RS_zero (l : List UInt8) : RS l 0 none [] := ⟨rfl, by simp, by simp, Nat.le_refl _⟩
theorem RS_end {l : List UInt8} {st : Option Nat} {xs : List (List UInt8)} (h : RS l l.length st xs) : xs = parts l := by
  obtain ⟨h1, _, h3, _⟩ := h
  rw [h3 rfl, sp_end] at h1; simpa using h1
theorem RS_skip {l : List UInt8} {k : Nat} {xs : List (List UInt8)} (h : RS l k none xs) (hk : k < l.length) (hc : l[k] = 47) : RS l (k + 1) none xs := by
  obtain ⟨h1, _, _, h4⟩ := h
  rw [sp_slash l k hk hc] at h1
  exact ⟨h1, by simp, by simp, by omega⟩
theorem RS_close {l : List UInt8} {k s : Nat} {xs : List (List UInt8)} (h : RS l k (some s) xs) (hk : k < l.length) (hc : l[k] = 47) : RS l (k + 1) none (xs ++ [partOf l k (some s)]) := by
  obtain ⟨h1, _, _, h4⟩ := h
  rw [sp_some_slash l s k hk hc] at h1
  exact ⟨by simpa [partOf] using h1, by simp, by simp, by simp; omega⟩
theorem RS_goon {l : List UInt8} {k : Nat} {st : Option Nat} {xs : List (List UInt8)} (h : RS l k st xs) (hk : k + 1 < l.length) (hc : l[k] ≠ 47) : RS l (k + 1) (some (st.getD k)) xs := by
  obtain ⟨h1, h2, _, h4⟩ := h
  refine ⟨?_, ?_, by omega, by omega⟩
  · rw [← h1]
    cases st with
    | none => rw [sp_none_part l k (by omega) hc]; rfl
    | some s => rw [sp_some_part l s k (by omega) hc]; rfl
  · intro s hs
    cases st with
    | none => simp at hs; omega
    | some s' => have := h2 s' rfl; simp at hs; omega
theorem RS_last {l : List UInt8} {k : Nat} {st : Option Nat} {xs : List (List UInt8)} (h : RS l k st xs) (hk : k < l.length) (hl : k + 1 = l.length) (hc : l[k] ≠ 47) : RS l (k + 1) none (xs ++ [partOf l (k + 1) (some (st.getD k))]) := by
  obtain ⟨h1, h2, _, h4⟩ := h
  refine ⟨?_, by simp, by simp, by simp; omega⟩
  rw [← h1]
  cases st with
  | none =>
    rw [sp_none_part l k hk hc, hl, sp_some_end, sp_end]; simp [partOf]
  | some s =>
    rw [sp_some_part l s k hk hc, hl, sp_some_end, sp_end]; simp [partOf]
theorem partOf_goon {l : List UInt8} {k : Nat} {st : Option Nat} (h2 : ∀ s, st = some s → s < k) (hk : k < l.length) : partOf l k st ++ [l[k]] = partOf l (k + 1) (some (st.getD k)) := by
  cases st with
  | none => simp only [partOf, Option.getD_none]; rw [cutS_snoc l k k (Nat.le_refl _) hk, cutS_self]
  | some s => simp only [partOf, Option.getD_some]; rw [cutS_snoc l s k (Nat.le_of_lt (h2 s rfl)) hk]
theorem pre_eq (l : List UInt8) : Lib.hasPrefix l [47] = match l with | [] => false | c :: _ => c == 47 := by
  cases l with
  | nil => rfl
  | cons c r =>
    unfold Lib.hasPrefix
    simp only [List.isPrefixOf, Bool.and_true]
    rw [Bool.eq_iff_iff, beq_iff_eq, beq_iff_eq]; exact eq_comm
theorem suf_eq (l : List UInt8) (h : l ≠ []) : Lib.hasSuffix l [47] = (l.getLast h == 47) := by
  unfold Lib.hasSuffix
  rw [Bool.eq_iff_iff, List.isSuffixOf_iff_suffix, beq_iff_eq]
  constructor
  · rintro ⟨t, ht⟩; subst ht; simp
  · intro e; exact ⟨l.dropLast, by rw [← e]; exact List.dropLast_concat_getLast h⟩
end Go.Proofs.YtilhiafmljmljaaDoor
namespace Go.Proofs.YtilhiafmljmljaaDoor
open Go.RowKit Go.Shelf
theorem byte_eq (c : UInt8) : ((c.toNat : Int) == 47) = (c == 47) := by
  rw [Bool.eq_iff_iff, beq_iff_eq, beq_iff_eq]
  constructor
  · intro h; exact UInt8.toNat_inj.1 (by have e : (47 : UInt8).toNat = 47 := rfl; omega)
  · intro h; rw [h]; rfl
theorem pre_byte (s : ByteArray) (h : 0 < s.size) : Lib.hasPrefix s.data.toList [47] = (((s[0]'h).toNat : Int) == 47) := by
  rw [byte_eq, pre_eq]
  have e : ∃ c r, s.data.toList = c :: r ∧ s[0]'h = c := by
    cases hl : s.data.toList with
    | nil => rw [← data_len, hl] at h; cases h
    | cons c r =>
      refine ⟨c, r, rfl, ?_⟩
      have h0 : 0 < s.data.toList.length := by rw [data_len]; exact h
      show s.data.toList[0]'h0 = c
      simp only [hl, List.getElem_cons_zero]
  obtain ⟨c, r, hl, hc⟩ := e
  rw [hl, hc]
theorem suf_byte (s : ByteArray) (h : 0 < s.size) : Lib.hasSuffix s.data.toList [47] = (((s[s.size - 1]'(by omega)).toNat : Int) == 47) := by
  have hn : s.data.toList ≠ [] := by intro e; rw [← data_len, e] at h; cases h
  rw [byte_eq, suf_eq _ hn, List.getLast_eq_getElem]
  have e : s.data.toList[s.data.toList.length - 1]'(by rw [data_len]; omega) = s[s.size - 1]'(by omega) := by
    simp only [data_len]; rfl
  rw [e]
theorem cat_one (s : ByteArray) (k : Nat) (h : k < s.size) (q : List UInt8) : (⟨q.toArray⟩ : ByteArray) ++ s.extract k (k + 1) = ⟨(q ++ [s[k]'h]).toArray⟩ := by
  have hl : k < s.data.toList.length := by rw [data_len]; exact h
  have e : List.drop k (List.take (k + 1) s.data.toList) = [s[k]'h] := by
    rw [List.take_succ_eq_append_getElem hl, List.drop_append_of_le_length (by simp; omega)]
    simp; rfl
  apply ByteArray.ext
  rw [extract_eq, e]
  simp
set_option maxRecDepth 100000 in
set_option maxHeartbeats 2000000 in
theorem rsplit_loop (s : ByteArray) (hs : s.size ≤ 65000) (w : World) :
    Calls Tryd.prog 26 #[.string s] w fun e W' => ∃ v, e = .returned (.tuple #[v, .bool (Lib.hasPrefix s.data.toList [47]), .bool (Lib.hasSuffix s.data.toList [47])]) ∧
      W'.ownsRow w.heap.size 9 1 v (parts s.data.toList).length (strs (parts s.data.toList)) ∧ Below w.heap.size w W' := by
  obtain ⟨i0, hi, hz0, hz1, hz2⟩ := info_parts infoStr
  go_enter Tryd.func26, Tryd.ntmps26
  go_wp2
  go_loopw [5, 6, 7] (fun v p i wr => ∃ (k : Nat) (st : Option Nat) (xs : List (List UInt8)) (q : List UInt8), i = .int .i64 k ∧ k ≤ s.size ∧ p = .string ⟨q.toArray⟩ ∧ q = partOf s.data.toList k st ∧ RS s.data.toList k st xs ∧
      wr.ownsRow w.heap.size 9 1 v xs.length (strs xs) ∧ Below w.heap.size w wr) (fun _ _ i _ => s.size - (intOf i).toNat)
  case atStart => exact ⟨0, none, [], [], rfl, Nat.zero_le _, rfl, rfl, RS_zero _, World.ownsRow_lit w #[] 0 (Nat.le_refl _) (Nat.zero_le _) rfl, (Below.refl _ _).alloc (Nat.le_refl _) _⟩
  case round =>
    obtain ⟨k, st, xs, q, rfl, hk, rfl, hq, hrs, hown, hB⟩ := hrel
    have hxl := hrs.2.2.2
    have hst := hrs.2.1
    have HR := Lib.hid hrs
    have HS := Lib.hid hst
    clear hrs hst
    by_cases hlt : k < s.size
    · have hll : k < s.data.toList.length := by rw [data_len]; exact hlt
      have hgl : s.data.toList[k]'hll = s[k]'hlt := rfl
      by_cases hc : s[k]'hlt = 47
      · have hcI : (((s[k]'hlt).toNat : Int) == 47) = true := by rw [hc]; rfl
        have hcN : (((s[k]'hlt).toNat : Int) != 47) = false := by rw [hc]; rfl
        cases st with
        | none =>
          have HR' := RS_skip HR.out hll (hgl.trans hc)
          obtain rfl : q = [] := hq
          have HR1 := Lib.hid HR'
          clear HR' hgl hc hll
          go_wp2
          go_roundw
          case rel => exact ⟨k + 1, none, xs, [], by go_num, by omega, rfl, rfl, HR1.out, hown, hB⟩
          case measure => simp [intOf]; omega
        | some b =>
          have HR' := RS_close HR.out hll (hgl.trans hc)
          rw [← hq] at HR'
          have HR1 := Lib.hid HR'
          have hqn : q ≠ [] := by rw [hq]; exact cutS_ne _ _ _ (HS.out b rfl) (Nat.le_of_lt hll)
          have hqI : (!q.isEmpty) = true := by simpa using hqn
          clear HR' hgl hc hll hqn hq
          go_wp2_with (at_builtin; refine wpList_append_own _ rfl _ _ 71 rfl w.heap.size 9 i0 (.string ByteArray.empty) 1 16 Tryd.underlying71 hi hz0 hz1 hz2 rfl (by decide) _ _ _ rfl (hown.alloc _) ⟨wr.heap.size, 0, none⟩ 1 1 [.string ⟨q.toArray⟩] rfl rfl (one_new _ _ _) (one_str _) (by unfold maxLen; omega) (by omega) (by have := hB.size; simp; omega) ?_; intro v' w1 hown' hgrow _; have hB1 := below_appended (Nat.le_refl _) hB hown hgrow)
          go_roundw
          case rel => exact ⟨k + 1, none, xs ++ [q], [], by go_num, by omega, rfl, rfl, HR1.out, by simpa [strs] using hown', hB1⟩
          case measure => simp [intOf]; omega
      · have hcI : (((s[k]'hlt).toNat : Int) == 47) = false := by
          rw [beq_eq_false_iff_ne]; intro h; exact hc (UInt8.toNat_inj.1 (by have e : (47 : UInt8).toNat = 47 := rfl; omega))
        have hcN : (((s[k]'hlt).toNat : Int) != 47) = true := by
          rw [bne_iff_ne]; intro h; exact hc (UInt8.toNat_inj.1 (by have e : (47 : UInt8).toNat = 47 := rfl; omega))
        obtain ⟨q', hq'⟩ : ∃ q', q' = q ++ [s[k]'hlt] := ⟨_, rfl⟩
        have hqp : q' = partOf s.data.toList (k + 1) (some (st.getD k)) := by rw [hq', hq, ← hgl]; exact partOf_goon HS.out hll
        have HQ := Lib.hid hqp
        have hcat : (⟨q.toArray⟩ : ByteArray) ++ s.extract k (k + 1) = ⟨q'.toArray⟩ := by rw [hq', cat_one s k hlt q]
        have hqI : (!q'.isEmpty) = true := by rw [hq']; simp
        have hroom : ¬ 9223372036854775807 < q.length + (min (k + 1) s.size - k) := by have := partOf_len s.data.toList k st; rw [← hq] at this; omega
        have g1 : (0 : Int) ≤ (k : Int) := by omega
        have g2 : (k : Int) ≤ (k : Int) + 1 := by omega
        have g3 : (k : Int) + 1 ≤ (s.size : Int) := by omega
        by_cases hl : k + 1 = s.size
        · have hkI : ((k : Int) == (s.size : Int) - 1) = true := by rw [beq_iff_eq]; omega
          have HR' := RS_last HR.out hll (by rw [data_len]; exact hl) (by rw [hgl]; exact hc)
          rw [← hqp] at HR'
          have HR1 := Lib.hid HR'
          clear HR' hgl hc hll hq hq' hqp hl
          go_wp2_with (at_builtin; refine wpList_append_own _ rfl _ _ 71 rfl w.heap.size 9 i0 (.string ByteArray.empty) 1 16 Tryd.underlying71 hi hz0 hz1 hz2 rfl (by decide) _ _ _ rfl (hown.alloc _) ⟨wr.heap.size, 0, none⟩ 1 1 [.string ⟨q'.toArray⟩] rfl rfl (one_new _ _ _) (one_str _) (by unfold maxLen; omega) (by omega) (by have := hB.size; simp; omega) ?_; intro v' w1 hown' hgrow _; have hB1 := below_appended (Nat.le_refl _) hB hown hgrow)
          go_roundw
          case rel => exact ⟨k + 1, none, xs ++ [q'], [], by go_num, by omega, rfl, rfl, HR1.out, by simpa [strs] using hown', hB1⟩
          case measure => simp [intOf]; omega
        · have hkI : ((k : Int) == (s.size : Int) - 1) = false := by rw [beq_eq_false_iff_ne]; omega
          have HR' := RS_goon HR.out (by rw [data_len]; omega) (by rw [hgl]; exact hc)
          have HR1 := Lib.hid HR'
          clear HR' hgl hc hll hq hq' hqp
          go_wp2
          go_roundw
          case rel => exact ⟨k + 1, _, xs, q', by go_num, by omega, rfl, HQ.out, HR1.out, hown, hB⟩
          case measure => simp [intOf]; omega
    · obtain rfl : k = s.size := by omega
      have HP : Hid (xs = parts s.data.toList) := Lib.hid (by have := HR.out; rw [← data_len] at this; exact RS_end this)
      obtain rfl := HP.out
      by_cases he : s.data.toList = []
      · have n1 := isEmpty_yes s he
        have n2 : (!s.toList.isEmpty) = false := by rw [n1]; rfl
        have e1 : Hid (Lib.hasPrefix s.data.toList [47] = false ∧ Lib.hasSuffix s.data.toList [47] = false) := Lib.hid (by rw [he]; exact ⟨rfl, rfl⟩)
        clear he
        go_wp2
        go_quiet (fail)
        go_wp2
        refine bodyPost_ret (v := .tuple #[u5, .bool false, .bool false]) (by simp [results, Tryd.results26, go_sem]) rfl ⟨u5, by rw [e1.out.1, e1.out.2], ownsRow_drewN hown _, below_drewN hB _⟩
      · have n1 := isEmpty_no s he
        have n2 : (!s.toList.isEmpty) = true := by rw [n1]; rfl
        have hpos : 0 < s.size := by rw [← data_len]; exact List.length_pos_iff.2 he
        have hposI : (0 : Int) < (s.size : Int) := by omega
        have hlast : (s.size : Int) - 1 < (s.size : Int) := by omega
        have hlast0 : (0 : Int) ≤ (s.size : Int) - 1 := by omega
        have h1I : (1 : Int) ≤ (s.size : Int) := by omega
        have hsum : IntKind.i64.wrap ((s.size : Int) - 1) = (s.size : Int) - 1 := IntWalk.i64_in _ (by omega)
        have htn : ((s.size : Int) - 1).toNat = s.size - 1 := by omega
        have HE := Lib.hid he
        clear he
        go_wp2
        go_quiet (fail)
        go_wp2
        refine bodyPost_ret (v := .tuple #[u5, .bool (((s[0]'hpos).toNat : Int) == 47), .bool (((s[s.size - 1]'(by omega)).toNat : Int) == 47)]) (by simp [results, Tryd.results26, go_sem]) rfl ⟨u5, ?_, ownsRow_drewN hown _, below_drewN hB _⟩
        rw [pre_byte s hpos, suf_byte s hpos]
end Go.Proofs.YtilhiafmljmljaaDoor
namespace Go.Proofs.YtilhiafmljmljaaDoor
open Go.RowKit Go.Shelf
theorem ownsRow_form {W : World} {base : Nat} {e : TypeId} {size : Nat} {v : Value} {n : Nat} {xs : List Value} (h : W.ownsRow base e size v n xs) :
    ∃ ao cap, v = .slice ao n cap ∧ (0 < n → ∃ g, ao = some ⟨g, 0, none⟩) := by
  rcases h.2 with ⟨rfl, rfl⟩ | ⟨g, cap, _, rfl, _⟩
  · exact ⟨none, 0, rfl, fun h => (by omega)⟩
  · exact ⟨_, cap, rfl, fun _ => ⟨g, rfl⟩⟩
theorem addr_add (g k : Nat) : (⟨g, 0, none⟩ : Addr).add k = ⟨g, k, none⟩ := by
  unfold Addr.add; split
  · rename_i h; subst h; rfl
  · simp
theorem strs_get (ps : List (List UInt8)) (k : Nat) (h : k < ps.length) : (strs ps)[k]? = some (.string ⟨(ps.getD k []).toArray⟩) := by
  unfold strs
  rw [List.getElem?_map, List.getElem?_eq_getElem h]
  simp [List.getD, h]
end Go.Proofs.YtilhiafmljmljaaDoor
namespace Go.Proofs.YtilhiafmljmljaaDoor
open Go.RowKit Go.Shelf
theorem cutS_len (l : List UInt8) (p : Nat × Nat) (h : p ∈ spans l) : (cutS l p).length = p.2 - p.1 := by
  have := spans_bd l p h
  unfold cutS; simp; omega
theorem check_r3 {l : List UInt8} (h : l ≠ []) (h2 : ¬ 100 < l.length) (h3 : (0 : UInt8) ∉ l) {k : Nat} (hk : k < (parts l).length) (h4 : 12 < ((parts l).getD k []).length) : checkE l = 9 := by
  refine check_e3 h h2 h3 ?_
  have hs : k < (spans l).length := by simpa [parts] using hk
  refine ⟨(spans l)[k], List.getElem_mem hs, ?_⟩
  rw [← cutS_len l _ (List.getElem_mem hs)]
  simpa [parts, List.getD, hs] using h4
theorem check_r4 {l : List UInt8} (h : l ≠ []) (h2 : ¬ 100 < l.length) (h3 : (0 : UInt8) ∉ l) (h4 : ∀ k, k < (parts l).length → ((parts l).getD k []).length ≤ 12) : checkE l = 0 := by
  refine check_e4 h h2 h3 fun p hp => ?_
  obtain ⟨k, hk, rfl⟩ := List.getElem_of_mem hp
  rw [← cutS_len l _ (List.getElem_mem hk)]
  have := h4 k (by simpa [parts] using hk)
  simpa [parts, List.getD, hk] using this
def NoZero (l : List UInt8) (k : Nat) : Prop := ∀ (j : Nat) (h : j < l.length), j < k → l[j] ≠ 0
def Fits (ps : List (List UInt8)) (k : Nat) : Prop := ∀ j, j < k → (ps.getD j []).length ≤ 12
theorem NoZero_step {l : List UInt8} {k : Nat} (h : NoZero l k) (hk : k < l.length) (hc : l[k] ≠ 0) : NoZero l (k + 1) := by
  intro j hj hjk
  rcases Nat.lt_succ_iff_lt_or_eq.1 hjk with h1 | rfl
  · exact h j hj h1
  · exact hc
theorem NoZero_all {l : List UInt8} (h : NoZero l l.length) : (0 : UInt8) ∉ l := by
  intro hm
  obtain ⟨j, hj, he⟩ := List.getElem_of_mem hm
  exact h j hj hj he
theorem byte0 (c : UInt8) (h : c ≠ 0) : (((c.toNat : Int)) == 0) = false := by
  rw [beq_eq_false_iff_ne]; intro e; exact h (UInt8.toNat_inj.1 (by have : (0 : UInt8).toNat = 0 := rfl; omega))
set_option maxHeartbeats 400000 in
theorem rcheck_zero (s : ByteArray) (hs : s.size ≤ 100) (h1 : s.data.toList ≠ []) (h3 : (0 : UInt8) ∈ s.data.toList) (w : World) :
    Calls Tryd.prog 25 #[.string s] w fun e W' => e = .returned (.int .i64 1) ∧ W' = w := by
  have n1 := isEmpty_no s h1
  have H3 := Lib.hid h3
  clear h1 h3
  go_enter Tryd.func25, Tryd.ntmps25
  go_wp2
  go_loop [3] (fun i => ∃ k : Nat, i = .int .i64 k ∧ k ≤ s.size ∧ Hid (NoZero s.data.toList k)) (fun i => s.size - (intOf i).toNat)
  case atStart => exact ⟨0, rfl, Nat.zero_le _, Lib.hid (fun _ _ h => (by omega))⟩
  case round =>
    obtain ⟨k, rfl, hk, hz⟩ := hrel
    by_cases hlt : k < s.size
    · by_cases hc : s[k]'hlt = 0
      · have hcI : (((s[k]'hlt).toNat : Int) == 0) = true := by rw [hc]; rfl
        clear hc
        go_wp2
        go_ret
        exact ⟨rfl, rfl⟩
      · have hcI := byte0 _ hc
        have hz' : Hid (NoZero s.data.toList (k + 1)) := Lib.hid (NoZero_step hz.out (by rw [data_len]; exact hlt) hc)
        clear hc
        go_wp2
        go_round
        case rel => exact ⟨k + 1, by go_num, by omega, hz'⟩
        case measure => simp [intOf]; omega
    · obtain rfl : k = s.size := by omega
      exact absurd H3.out (NoZero_all (by have := hz.out; rwa [← data_len] at this))
set_option maxRecDepth 100000 in
set_option maxHeartbeats 1000000 in
theorem rcheck_ok (s : ByteArray) (hs : s.size ≤ 100) (h1 : s.data.toList ≠ []) (h3 : (0 : UInt8) ∉ s.data.toList) (w : World) :
    Calls Tryd.prog 25 #[.string s] w fun e W' => e = .returned (.int .i64 (checkE s.data.toList)) ∧ Below w.heap.size w W' := by
  have n1 := isEmpty_no s h1
  have H1 := Lib.hid h1
  have H3 := Lib.hid h3
  clear h1 h3
  go_enter Tryd.func25, Tryd.ntmps25
  go_wp2
  go_loop [3] (fun i => ∃ k : Nat, i = .int .i64 k ∧ k ≤ s.size) (fun i => s.size - (intOf i).toNat)
  case atStart => exact ⟨0, rfl, Nat.zero_le _⟩
  case round =>
    obtain ⟨k, rfl, hk⟩ := hrel
    by_cases hlt : k < s.size
    · have hcI := byte0 (s[k]'hlt) (fun e => H3.out (by
        have hl : k < s.data.toList.length := by rw [data_len]; exact hlt
        rw [← e]; exact List.getElem_mem hl))
      go_wp2
      go_round
      case rel => exact ⟨k + 1, by go_num, by omega⟩
      case measure => simp [intOf]; omega
    · go_wp2_with (go_at_call 26; refine (rsplit_loop _ (by omega) _).mono ?_; rintro e w' ⟨v, rfl, hown, hB⟩; obtain ⟨ao, cap, rfl, hf⟩ := ownsRow_form hown; have HF := Lib.hid hf; clear hf)
      have hle : (parts s.data.toList).length ≤ 65000 := by
        have := spans_len s.data.toList; rw [data_len] at this; simp only [parts, List.length_map]; omega
      obtain ⟨n, hn⟩ : ∃ n, n = (parts s.data.toList).length := ⟨_, rfl⟩
      rw [← hn] at hown hle ⊢
      rw [← hn] at HF
      have HN := Lib.hid hn
      clear hn
      go_loop [7] (fun i => ∃ k : Nat, i = .int .i64 k ∧ k ≤ n ∧ Hid (Fits (parts s.data.toList) k)) (fun i => n - (intOf i).toNat)
      case atStart => exact ⟨0, rfl, Nat.zero_le _, Lib.hid (fun _ h => (by omega))⟩
      case round =>
        obtain ⟨k, rfl, hk, hft⟩ := hrel
        by_cases hlt2 : k < n
        · obtain ⟨g, rfl⟩ := HF.out (by omega)
          have hc := hown.cells (g := g) rfl k _ (strs_get _ k (by rw [← HN.out]; exact hlt2))
          rw [addr_add] at hc
          obtain ⟨x, hx⟩ : ∃ x, x = (parts s.data.toList).getD k [] := ⟨_, rfl⟩
          rw [← hx] at hc
          have HX := Lib.hid hx
          clear hx
          have i0 : (0 : Int) ≤ (k : Int) := by omega
          have i1 : (k : Int) < (n : Int) := by omega
          by_cases hb : 12 < x.length
          · have hbI : (12 : Int) < (x.length : Int) := by omega
            have E : Hid (checkE s.data.toList = 9) := Lib.hid (check_r3 H1.out (by rw [data_len]; omega) H3.out (by rw [← HN.out]; exact hlt2) (by rw [← HX.out]; exact hb))
            go_wp2
            go_ret
            exact ⟨ret_int E.out.symm, hB⟩
          · have hbI : ¬ (12 : Int) < (x.length : Int) := by omega
            have hft' : Hid (Fits (parts s.data.toList) (k + 1)) := Lib.hid (fun j hj => by
              rcases Nat.lt_succ_iff_lt_or_eq.1 hj with h | rfl
              · exact hft.out j h
              · rw [← HX.out]; omega)
            go_wp2
            go_round
            case rel => exact ⟨k + 1, by go_num, by omega, hft'⟩
            case measure => simp [intOf]; omega
        · have E : Hid (checkE s.data.toList = 0) := Lib.hid (check_r4 H1.out (by rw [data_len]; omega) H3.out (fun j hj => hft.out j (by rw [← HN.out] at hj; omega)))
          go_wp2
          go_ret
          exact ⟨ret_int E.out.symm, hB⟩
set_option maxHeartbeats 400000 in
theorem rcheck_any (s : ByteArray) (w : World) :
    Calls Tryd.prog 25 #[.string s] w fun e W' => e = .returned (.int .i64 (checkE s.data.toList)) ∧ Below w.heap.size w W' := by
  by_cases h1 : s.data.toList = []
  · have n1 := isEmpty_yes s h1
    have E := Lib.hid (check_e0 h1)
    clear h1
    go_enter Tryd.func25, Tryd.ntmps25
    go_wp2
    go_ret
    exact ⟨ret_int E.out.symm, Below.refl _ _⟩
  · by_cases h2 : 100 < s.data.toList.length
    · have E := Lib.hid (check_e1 h1 h2)
      have n1 := isEmpty_no s h1
      have n2 : 100 < s.size := by rw [data_len] at h2; omega
      clear h1 h2
      go_enter Tryd.func25, Tryd.ntmps25
      go_wp2
      go_ret
      exact ⟨ret_int E.out.symm, Below.refl _ _⟩
    · have hs : s.size ≤ 100 := by rw [data_len] at h2; omega
      by_cases h3 : (0 : UInt8) ∈ s.data.toList
      · refine (rcheck_zero s hs h1 h3 w).mono fun e w' ⟨he, hw⟩ => ⟨?_, ?_⟩
        · rw [he, check_e2 h1 h2 h3]
        · rw [hw]; exact Below.refl _ _
      · exact rcheck_ok s hs h1 h3 w
end Go.Proofs.YtilhiafmljmljaaDoor
namespace Go.Proofs.YtilhiafmljmljaaDoor
def PartAt (l : List UInt8) (x y : Nat) : Prop := x < y ∧ y ≤ l.length ∧ (x = 0 ∨ l[x - 1]? = some 47) ∧ ∀ j, x ≤ j → j < y → l[j]? ≠ some 47
def AllSlash (l : List UInt8) (y : Nat) : Prop := ∀ j, y ≤ j → j < l.length → l[j]? = some 47
theorem sp_last (l : List UInt8) : ∀ (n i : Nat) (st : Option Nat), l.length - i = n → i ≤ l.length → (st = none → i = 0 ∨ l[i - 1]? = some 47) →
    (∀ s, st = some s → s < i ∧ (s = 0 ∨ l[s - 1]? = some 47) ∧ ∀ j, s ≤ j → j < i → l[j]? ≠ some 47) →
    (sp i st (l.drop i) = [] → AllSlash l i) ∧ (∀ p, (sp i st (l.drop i)).getLast? = some p → PartAt l p.1 p.2 ∧ AllSlash l p.2) := by
  intro n
  induction n with
  | zero =>
    intro i st hn hi h1 h2
    obtain rfl : i = l.length := by omega
    cases st with
    | none => rw [sp_end]; exact ⟨fun _ j a b => (by omega), fun p h => by cases h⟩
    | some s =>
      rw [sp_some_end]
      obtain ⟨a, b, c⟩ := h2 s rfl
      refine ⟨fun h => (by cases h), fun p h => ?_⟩
      simp at h; subst h
      exact ⟨⟨a, Nat.le_refl _, b, c⟩, fun j a b => (by simp at a; omega)⟩
  | succ n ih =>
    intro i st hn hi h1 h2
    have hlt : i < l.length := by omega
    have hget : l[i]? = some l[i] := List.getElem?_eq_getElem hlt
    by_cases hc : l[i] = 47
    · rw [hc] at hget
      have hi1 := ih (i + 1) none (by omega) hlt (fun _ => .inr (by simpa using hget)) (fun s h => by cases h)
      have hall : AllSlash l (i + 1) → AllSlash l i := fun h j a b => by
        rcases Nat.lt_or_ge j (i + 1) with h' | h'
        · have e : j = i := by omega
          rw [e]; exact hget
        · exact h j h' b
      cases st with
      | none =>
        rw [sp_slash l i hlt hc]
        exact ⟨fun h => hall (hi1.1 h), hi1.2⟩
      | some s =>
        rw [sp_some_slash l s i hlt hc]
        obtain ⟨a, b, c⟩ := h2 s rfl
        refine ⟨fun h => (by cases h), fun p h => ?_⟩
        cases hr : sp (i + 1) none (l.drop (i + 1)) with
        | nil =>
          rw [hr] at h; simp at h; subst h
          exact ⟨⟨a, by omega, b, c⟩, hall (hi1.1 hr)⟩
        | cons q r =>
          rw [hr, List.getLast?_cons_cons] at h
          exact hi1.2 p (by rw [hr]; exact h)
    · have hne : l[i]? ≠ some 47 := by rw [hget]; intro e; exact hc (Option.some.inj e)
      cases st with
      | none =>
        rw [sp_none_part l i hlt hc]
        have hh := h1 rfl
        have hi1 := ih (i + 1) (some i) (by omega) hlt (fun h => by cases h) (fun s h => by
          cases h
          refine ⟨Nat.lt_succ_self _, hh, fun j a b => ?_⟩
          have e : j = i := by omega
          rw [e]; exact hne)
        refine ⟨fun h => ?_, hi1.2⟩
        rw [sp_some] at h; cases h
      | some s =>
        rw [sp_some_part l s i hlt hc]
        obtain ⟨a, b, c⟩ := h2 s rfl
        have hi1 := ih (i + 1) (some s) (by omega) hlt (fun h => by cases h) (fun s' h => by
          cases h
          refine ⟨by omega, b, fun j u v => ?_⟩
          rcases Nat.lt_or_ge j i with h' | h'
          · exact c j u h'
          · have e : j = i := by omega
            rw [e]; exact hne)
        refine ⟨fun h => ?_, hi1.2⟩
        rw [sp_some] at h; cases h
theorem spans_none {l : List UInt8} (h : spans l = []) : AllSlash l 0 :=
  (sp_last l _ 0 none rfl (Nat.zero_le _) (fun _ => .inl rfl) (fun s h => by cases h)).1 (by simpa [spans] using h)
end Go.Proofs.YtilhiafmljmljaaDoor
namespace Go.Proofs.YtilhiafmljmljaaDoor
open Go.RowKit Go.Shelf
end Go.Proofs.YtilhiafmljmljaaDoor
namespace Go.Proofs.YtilhiafmljmljaaDoor
open Go.RowKit Go.Shelf
end Go.Proofs.YtilhiafmljmljaaDoor
namespace Go.Proofs.YtilhiafmljmljaaDoor
open Go.RowKit Go.Shelf
end Go.Proofs.YtilhiafmljmljaaDoor
namespace Go.Proofs.YtilhiafmljmljaaDoor
def partsG (cur : List UInt8) : List UInt8 → List (List UInt8)
  | [] => if cur = [] then [] else [cur]
  | c :: r => if c = 47 then (if cur = [] then partsG [] r else cur :: partsG [] r) else partsG (cur ++ [c]) r
theorem partsG_eq (l : List UInt8) : ∀ (n i : Nat) (st : Option Nat), l.length - i = n → i ≤ l.length → (∀ s, st = some s → s < i) → (sp i st (l.drop i)).map (cutS l) = partsG (partOf l i st) (l.drop i) := by
  intro n
  induction n with
  | zero =>
    intro i st hn hi hst
    obtain rfl : i = l.length := by omega
    have hd : l.drop l.length = [] := by simp
    cases st with
    | none => rw [sp_end, hd]; rfl
    | some s =>
      have := cutS_ne l s l.length (hst s rfl) (Nat.le_refl _)
      rw [sp_some_end, hd]; simp [partsG, partOf, this]
  | succ n ih =>
    intro i st hn hi hst
    have hlt : i < l.length := by omega
    have hd := List.drop_eq_getElem_cons hlt
    by_cases hc : l[i] = 47
    · have h1 := ih (i + 1) none (by omega) hlt (by simp)
      cases st with
      | none => rw [sp_slash l i hlt hc, h1]; conv => rhs; rw [hd, partsG]
                simp [hc, partOf]
      | some s =>
        have := cutS_ne l s i (hst s rfl) (by omega)
        rw [sp_some_slash l s i hlt hc, List.map_cons, h1]; conv => rhs; rw [hd, partsG]
        simp [hc, partOf, this]
    · have h1 := ih (i + 1) (some (st.getD i)) (by omega) hlt (by
        intro s hs
        cases st with
        | none => simp at hs; omega
        | some s' => have := hst s' rfl; simp at hs; omega)
      have h2 : sp i st (l.drop i) = sp (i + 1) (some (st.getD i)) (l.drop (i + 1)) := by
        cases st with
        | none => exact sp_none_part l i hlt hc
        | some s => exact sp_some_part l s i hlt hc
      rw [h2, h1]
      conv => rhs; rw [hd, partsG, if_neg hc]
      rw [partOf_goon hst hlt]
theorem parts_G (l : List UInt8) : parts l = partsG [] l := by
  have := partsG_eq l _ 0 none rfl (Nat.zero_le _) (by simp)
  simpa [parts, spans, partOf] using this
theorem G_app (a b : List UInt8) : ∀ cur, partsG cur (a ++ 47 :: b) = partsG cur a ++ partsG [] b := by
  induction a with
  | nil => intro cur; simp only [List.nil_append, partsG, if_true]; split <;> simp
  | cons c r ih =>
    intro cur
    simp only [List.cons_append, partsG]
    split
    · split
      · exact ih []
      · rw [ih []]; rfl
    · exact ih _
theorem G_part (b : List UInt8) : ∀ cur, (47 : UInt8) ∉ b → partsG cur b = if cur ++ b = [] then [] else [cur ++ b] := by
  induction b with
  | nil => intro cur _; simp [partsG]
  | cons c r ih =>
    intro cur h
    simp only [List.mem_cons, not_or] at h
    rw [partsG, if_neg (fun e => h.1 e.symm), ih _ h.2]
    simp
theorem parts_app (a b : List UInt8) : parts (a ++ 47 :: b) = parts a ++ parts b := by rw [parts_G, parts_G, parts_G, G_app]
theorem parts_one {b : List UInt8} (h : (47 : UInt8) ∉ b) (hb : b ≠ []) : parts b = [b] := by rw [parts_G, G_part b [] h]; simp [hb]
end Go.Proofs.YtilhiafmljmljaaDoor
namespace Go.Proofs.YtilhiafmljmljaaDoor
open Go.RowKit Go.Shelf
end Go.Proofs.YtilhiafmljmljaaDoor
