/-
  The program's replace, Find, Drop, Put.
-/
import Derived.Test.YtbabkpaepijjeaaEntJ
namespace Go.Proofs.Ytbabkpaepijjeaa
open Go.RowKit Go.Shelf
open Go.WideShapes (add_plain)
attribute [local go_sem ↓] Go.wp_at_zero Go.wp_at_succ

/-- Where s[:k] begins, and s[k:], of elements of two cells. -/
def headA (ao : Option Addr) (cap : Nat) : Option Addr := if cap = 0 then ao else ao.map (·.add (0 * 2))
def cutB (ao : Option Addr) (k cap : Nat) : Option Addr := if cap = k then ao else ao.map (·.add (k * 2))
theorem sizeEnt (w : World) : (sizeOf 43).run Try.prog w = .ok 2 w := by kernel_rfl
theorem run_head (ao : Option Addr) (n cap k : Nat) (hk : k ≤ cap) (w : World) :
    (Instr.slice 22 (.slice ao n cap) none (some (.int .i64 (k : Int))) none).run Try.prog w = .ok (.slice (headA ao cap) k cap) w := by
  have he : Try.prog.elem 22 = 43 := by simp [Program.elem, Try.underlying22]
  rw [run_slice_h w 22 ao n cap (by rw [he]; exact Try.underlying22) .i64 k (by omega) (by omega), he, sizeEnt]
  simp [Result.andThen, sliced, headA]
theorem run_tail (ao : Option Addr) (n cap k : Nat) (hk : k ≤ n) (w : World) :
    (Instr.slice 22 (.slice ao n cap) (some (.int .i64 (k : Int))) none none).run Try.prog w = .ok (.slice (cutB ao k cap) (n - k) (cap - k)) w := by
  have he : Try.prog.elem 22 = 43 := by simp [Program.elem, Try.underlying22]
  rw [run_slice_l w 22 ao n cap (by rw [he]; exact Try.underlying22) .i64 k (by omega) (by omega), he, sizeEnt]
  simp [Result.andThen, sliced, cutB]
theorem ents_take (l : List EntL) (k : Nat) : ents (l.take k) = (ents l).take (k * 2) := by
  induction l generalizing k with
  | nil => simp [ents]
  | cons e l ih =>
    cases k with
    | zero => simp [ents]
    | succ k =>
      have := ih k
      rw [show (k + 1) * 2 = k * 2 + 1 + 1 by omega]
      simpa [ents] using this
theorem ents_drop (l : List EntL) (k : Nat) : ents (l.drop k) = (ents l).drop (k * 2) := by
  induction l generalizing k with
  | nil => simp [ents]
  | cons e l ih =>
    cases k with
    | zero => simp
    | succ k =>
      have := ih k
      rw [show (k + 1) * 2 = k * 2 + 1 + 1 by omega]
      simpa [ents] using this
theorem Rd.head2 {B : Nat} {ao : Option Addr} {cap : Nat} {l : List EntL} {W : World} (h : Rd B 2 (.slice ao l.length cap) l.length (ents l) W) (k : Nat) (hk : k ≤ l.length) : Rd B 2 (.slice (headA ao cap) k cap) k (ents (l.take k)) W := by
  obtain ⟨ao', cap', e, hc, hm, hz, hl, h⟩ := h
  injection e with e1 _ e2
  subst e1
  subst e2
  refine ⟨_, _, rfl, by omega, hm, fun e => ?_, by rw [ents_len, List.length_take]; omega, fun hn => ?_⟩
  · unfold headA at e
    split at e
    · assumption
    · cases ao with
      | none => exact hz rfl
      | some a => cases e
  · obtain ⟨b, off, rfl, hb, h⟩ := h (by omega)
    refine ⟨b, off, ?_, hb, fun j u hu => ?_⟩
    · unfold headA
      split
      · rfl
      · simp [add_plain]
    · rw [ents_take] at hu
      have := (List.getElem?_eq_some_iff.1 hu).1
      rw [List.length_take] at this
      rw [List.getElem?_take_of_lt (by omega)] at hu
      exact h j u hu
theorem Rd.tail2 {B : Nat} {ao : Option Addr} {cap : Nat} {l : List EntL} {W : World} (h : Rd B 2 (.slice ao l.length cap) l.length (ents l) W) (k : Nat) (hk : k ≤ l.length) : Rd B 2 (.slice (cutB ao k cap) (l.length - k) (cap - k)) (l.length - k) (ents (l.drop k)) W := by
  obtain ⟨ao', cap', e, hc, hm, hz, hl, h⟩ := h
  injection e with e1 _ e2
  subst e1
  subst e2
  refine ⟨_, _, rfl, by omega, by omega, fun e => ?_, by rw [ents_len, List.length_drop], fun hn => ?_⟩
  · unfold cutB at e
    split at e
    · omega
    · cases ao with
      | none => have := hz rfl; omega
      | some a => cases e
  · obtain ⟨b, off, rfl, hb, h⟩ := h (by omega)
    refine ⟨b, off + k * 2, ?_, hb, fun j u hu => ?_⟩
    · unfold cutB
      rw [if_neg (by omega)]
      simp [add_plain]
    · rw [ents_drop, List.getElem?_drop] at hu
      rw [Nat.add_assoc]
      exact h _ u hu

set_option maxRecDepth 100000 in
set_option maxHeartbeats 2000000 in
theorem replace_any (B : Nat) (v vt : Value) (l t : List EntL) (a z : Nat) (w : World) (hv : Rd B 2 v l.length (ents l) w) (ht : Rd B 2 vt t.length (ents t) w) (hB : B ≤ w.heap.size) (hl : l.length ≤ 10000) (htl : t.length ≤ 10000) (ha : a ≤ l.length) (hz : z ≤ l.length) :
    Calls Try.prog 28 #[v, .int .i64 a, .int .i64 z, vt] w fun e w' => GivesE (l.take a ++ t ++ l.drop z) e w w' := by
  obtain ⟨ao, cap, rfl, hlc, hcm⟩ := hv.form
  obtain ⟨aot, capt, rfl, _, _⟩ := ht.form
  have h1 := run_head ao l.length cap a (by omega)
  have h2 := run_tail ao l.length cap z hz
  have r1 := Lib.hid ((hv.head2 a ha).mono hB)
  have r2 := Lib.hid ((hv.tail2 z hz).mono hB)
  have r3 := Lib.hid (ht.mono hB)
  clear hv ht
  go_enter Try.func28, Try.ntmps28
  go_wp2_with fail
  go_still_tail 7, (by kernel_rfl)
  change wpList _ _ _ _ _ w.drew
  have hB1 : Below w.heap.size w w.drew := (Below.refl _ w).drew
  have hs1 : w.drew.heap.size = w.heap.size := rfl
  have R1 := Lib.hid (r1.out.below hB1)
  have R2 := Lib.hid (r2.out.below hB1)
  have R3 := Lib.hid (r3.out.below hB1)
  clear r1 r2 r3 h1 h2
  generalize w.drew = w2 at *
  have hbF := heap_alloc_new w2 (.cells #[.slice (headA ao cap) a cap, .slice aot t.length capt, .slice (cutB ao z cap) (l.length - z) (cap - z)] 22)
  have hB2 : Below w.heap.size w (w2.alloc (.cells #[.slice (headA ao cap) a cap, .slice aot t.length capt, .slice (cutB ao z cap) (l.length - z) (cap - z)] 22)) := hB1.alloc (by omega) _
  have hB3 : Below w2.heap.size w2 (w2.alloc (.cells #[.slice (headA ao cap) a cap, .slice aot t.length capt, .slice (cutB ao z cap) (l.length - z) (cap - z)] 22)) := (Below.refl _ w2).alloc (Nat.le_refl _) _
  have hC := concat_any w2.heap.size 0 3 [(.slice (headA ao cap) a cap, l.take a), (.slice aot t.length capt, t), (.slice (cutB ao z cap) (l.length - z) (cap - z), l.drop z)] (w2.alloc (.cells #[.slice (headA ao cap) a cap, .slice aot t.length capt, .slice (cutB ao z cap) (l.length - z) (cap - z)] 22)) (by simp)
    (by
      have hsz : w.heap.size ≤ (w2.alloc (.cells #[.slice (headA ao cap) a cap, .slice aot t.length capt, .slice (cutB ao z cap) (l.length - z) (cap - z)] 22)).heap.size := by simp; omega
      intro k hk
      have hk3 : k = 0 ∨ k = 1 ∨ k = 2 := by simp at hk; omega
      rcases hk3 with rfl | rfl | rfl
      · refine ⟨by rw [Lib.cell_of_heap hbF]; rfl, ?_⟩
        have := ((R1.out.mono (show w.heap.size ≤ w2.heap.size by omega)).below hB3).mono (show w2.heap.size ≤ _ from hB3.size)
        have e : (l.take a).length = a := by rw [List.length_take]; omega
        show Rd _ 2 _ (l.take a).length _ _
        rw [e]
        exact this
      · exact ⟨by rw [Lib.cell_of_heap hbF]; rfl, ((R3.out.mono (show w.heap.size ≤ w2.heap.size by omega)).below hB3).mono (show w2.heap.size ≤ _ from hB3.size)⟩
      · refine ⟨by rw [Lib.cell_of_heap hbF]; rfl, ?_⟩
        have := ((R2.out.mono (show w.heap.size ≤ w2.heap.size by omega)).below hB3).mono (show w2.heap.size ≤ _ from hB3.size)
        show Rd _ 2 _ (l.drop z).length _ _
        rw [List.length_drop]
        exact this)
    (by
      intro x hx
      simp only [List.mem_cons, List.not_mem_nil, or_false] at hx
      rcases hx with rfl | rfl | rfl
      · show (l.take a).length ≤ 10001; rw [List.length_take]; omega
      · show t.length ≤ 10001; omega
      · show (l.drop z).length ≤ 10001; rw [List.length_drop]; omega)
    (by simp)
  have HE : Hid (allL [((Value.slice (headA ao cap) a cap, l.take a) : Src), (.slice aot t.length capt, t), (.slice (cutB ao z cap) (l.length - z) (cap - z), l.drop z)] = l.take a ++ t ++ l.drop z) := Lib.hid (by simp [allL])
  rw [HE.out] at hC
  clear hbF hB3 hB1
  clear hs1
  go_wp2_with fail
  refine hC.mono ?_
  rintro e w3 ⟨v3, rfl, hr3, hb3⟩
  go_wp2_with fail
  go_ret
  exact ⟨_, rfl, hr3, hB2.trans (hb3.mono hB2.size)⟩

/-- A new slice of entries. -/
theorem Rd_newE (W : World) (l : List EntL) (t : TypeId) (vs : Array Value) (hv : vs = (ents l).toArray) (hl : l.length ≤ 65000) : Rd (W.alloc (.cells vs t)).heap.size 2 (.slice (some ⟨W.heap.size, 0, none⟩) l.length l.length) l.length (ents l) (W.alloc (.cells vs t)) := by
  subst hv
  refine ⟨_, _, rfl, Nat.le_refl _, by unfold maxLen; omega, fun e => (by cases e), ents_len l, fun _ => ⟨W.heap.size, 0, rfl, by simp, fun j u hu => ?_⟩⟩
  rw [Lib.cell_of_heap (heap_alloc_new W _), Nat.zero_add]
  simpa using hu
def FindIs (o : Option Int) (e : Ending) (W W' : World) : Prop := e = .returned (.tuple #[.int .i64 (vint o), .bool o.isSome]) ∧ Below W.heap.size W W'
set_option maxRecDepth 100000 in
set_option maxHeartbeats 2000000 in
theorem find_any (B : Nat) (v : Value) (l : List EntL) (n : Nm) (w : World) (hv : Rd B 2 v l.length (ents l) w) (hB : B ≤ w.heap.size) (hl : l.length ≤ 10000) (hu : Up l) :
    Calls Try.prog 16 #[v, .string (bs n)] w fun e w' => FindIs (findL l n) e w w' := by
  obtain ⟨ao, cap, rfl, _, _⟩ := hv.form
  have HP := fun w (hw : Rd w.heap.size 2 (.slice ao l.length cap) l.length (ents l) w) => place_any w.heap.size _ l n w hw (Nat.le_refl _) hl hu
  have hend := end_le hu n
  have hat := at_lo hu n
  cases hf : findL l n with
  | none =>
    rw [hf] at HP
    have HV := Lib.hid (hv.mono hB)
    clear hv hat hend hf
    generalize (lo l n).length = a at *
    go_enter Try.func16, Try.ntmps16
    go_wp2_with fail
    refine (HP _ HV.out).mono ?_
    rintro e w1 ⟨rfl, hb1⟩
    rw [show a + (mid n none).length = a from rfl]
    go_wp2_with fail
    go_ret2
    exact ⟨rfl, hb1⟩
  | some i =>
    rw [hf] at HP hend
    have hlt : (lo l n).length < l.length := by
      have : (mid n (some i)).length = 1 := rfl
      omega
    have hit : l[(lo l n).length] = (n, i) := by
      rcases hat hlt with ⟨j, h1, h2⟩ | ⟨h1, _⟩
      · rw [hf] at h1
        injection h1 with h1
        rw [h2, h1]
      · rw [hf] at h1; cases h1
    have HV := Lib.hid (hv.mono hB)
    clear hv hat hend hf
    generalize (lo l n).length = a at *
    go_enter Try.func16, Try.ntmps16
    go_wp2_with fail
    refine (HP _ HV.out).mono ?_
    rintro e w1 ⟨rfl, hb1⟩
    rw [show a + (mid n (some i)).length = a + 1 from rfl]
    obtain ⟨b, off, cap', e, _, _, hb, _, hc⟩ := (HV.out.below hb1).at (by omega)
    injection e with e1 _ e2
    subst e1
    subst e2
    have hc1 : w1.cell? ⟨b, off + a * 2 + 1, none⟩ = some (.int .i64 i) := by
      have := hc (a * 2 + 1) _ (ents_at1 l a hlt)
      rwa [hit] at this
    have hne : ((a : Int) == (a : Int) + 1) = false := by rw [beq_eq_false_iff_ne]; omega
    clear hc HP hit
    go_wp2_with fail
    go_ret2
    exact ⟨rfl, hb1⟩
set_option maxRecDepth 100000 in
set_option maxHeartbeats 2000000 in
theorem drop_any (B : Nat) (v : Value) (l : List EntL) (n : Nm) (w : World) (hv : Rd B 2 v l.length (ents l) w) (hB : B ≤ w.heap.size) (hl : l.length ≤ 10000) (hu : Up l) :
    Calls Try.prog 19 #[v, .string (bs n)] w fun e w' => GivesE (dropL l n) e w w' := by
  obtain ⟨ao, cap, rfl, _, _⟩ := hv.form
  have HP := fun w (hw : Rd w.heap.size 2 (.slice ao l.length cap) l.length (ents l) w) => place_any w.heap.size _ l n w hw (Nat.le_refl _) hl hu
  have hend := end_le hu n
  have hle := lo_len l n
  have HE : Hid (l.take (lo l n).length ++ [] ++ l.drop ((lo l n).length + (mid n (findL l n)).length) = dropL l n) := Lib.hid (by
    rw [take_lo hu, drop_hi hu, drop_parts hu, List.append_nil])
  have HV := Lib.hid (hv.mono hB)
  clear hv
  generalize (lo l n).length = a at *
  generalize (mid n (findL l n)).length = m at *
  generalize hz : a + m = z at *
  go_enter Try.func19, Try.ntmps19
  go_wp2_with fail
  refine (HP _ HV.out).mono ?_
  rintro e w1 ⟨rfl, hb1⟩
  rw [hz]
  clear HP
  go_wp2_with fail
  refine (replace_any _ _ _ l [] a z _ (HV.out.below hb1) (Rd.none0 _ _ _) hb1.size hl (by decide) hle hend).mono ?_
  rintro e w2 ⟨v2, rfl, hr2, hb2⟩
  rw [HE.out] at hr2
  go_wp2_with fail
  go_ret
  exact ⟨_, rfl, hr2, hb1.trans (hb2.mono hb1.size)⟩
set_option maxRecDepth 100000 in
set_option maxHeartbeats 2000000 in
theorem put_any (B : Nat) (v : Value) (l : List EntL) (n : Nm) (i : Int) (w : World) (hv : Rd B 2 v l.length (ents l) w) (hB : B ≤ w.heap.size) (hl : l.length ≤ 10000) (hu : Up l) :
    Calls Try.prog 24 #[v, .agg #[.string (bs n), .int .i64 i]] w fun e w' => GivesE (putL l (n, i)) e w w' := by
  obtain ⟨ao, cap, rfl, _, _⟩ := hv.form
  have HP := fun w (hw : Rd w.heap.size 2 (.slice ao l.length cap) l.length (ents l) w) => place_any w.heap.size _ l n w hw (Nat.le_refl _) hl hu
  have hend := end_le hu n
  have hle := lo_len l n
  have HE : Hid (l.take (lo l n).length ++ [(n, i)] ++ l.drop ((lo l n).length + (mid n (findL l n)).length) = putL l (n, i)) := Lib.hid (by
    rw [take_lo hu, drop_hi hu, put_mid]; rfl)
  have HV := Lib.hid (hv.mono hB)
  clear hv
  generalize (lo l n).length = a at *
  generalize (mid n (findL l n)).length = m at *
  generalize hz : a + m = z at *
  go_enter Try.func24, Try.ntmps24
  go_wp2_with fail
  have hb0 : Below w.heap.size w (w.alloc (.cells #[.string (bs n), .int .i64 i] 43)) := (Below.refl _ w).alloc (Nat.le_refl _) _
  have hbF := heap_alloc_new w (.cells #[.string (bs n), .int .i64 i] 43)
  have hf0 : w.heap.size < (w.alloc (.cells #[.string (bs n), .int .i64 i] 43)).heap.size := by simp
  have HV0 := Lib.hid ((HV.out.below hb0).mono hb0.size)
  generalize hnf : w.heap.size = nf at *
  generalize w.alloc (.cells #[.string (bs n), .int .i64 i] 43) = W0 at *
  refine (HP _ HV0.out).mono ?_
  rintro e w1 ⟨rfl, hb1⟩
  rw [hz]
  have s1 := hb1.size
  have hbF1 := (hb1.block nf hf0).trans hbF
  have c0 : w1.cell? ⟨nf, 0, none⟩ = some (.string (bs n)) := by rw [Lib.cell_of_heap hbF1]; rfl
  have c1 : w1.cell? ⟨nf, 1, none⟩ = some (.int .i64 i) := by rw [Lib.cell_of_heap hbF1]; rfl
  have HV1 := Lib.hid ((HV0.out.below hb1).mono s1)
  have HB1 := Lib.hid (hb0.trans (hb1.mono (by omega)))
  have hnw : nf ≤ w1.heap.size := by omega
  clear HP hbF hb0 hb1 hbF1 hf0
  go_wp2_with fail
  have hB2 := HB1.out.alloc hnw (.cells #[.string (bs n), .int .i64 i] 43)
  have hB3 : Below w1.heap.size w1 (w1.alloc (.cells #[.string (bs n), .int .i64 i] 43)) := (Below.refl _ w1).alloc (Nat.le_refl _) _
  have hr1 := Rd_newE w1 [(n, i)] 43 #[.string (bs n), .int .i64 i] rfl (by simp)
  refine (replace_any _ _ _ l [(n, i)] a z _ ((HV1.out.below hB3).mono hB3.size) hr1 (Nat.le_refl _) hl (by simp) hle hend).mono ?_
  rintro e w2 ⟨v2, rfl, hr2, hb2⟩
  rw [HE.out] at hr2
  have s2 := hB3.size
  clear hr1 hB3
  go_wp2_with fail
  go_ret
  exact ⟨_, rfl, hr2, by rw [hnf]; exact hB2.trans (hb2.mono (by omega))⟩
end Go.Proofs.Ytbabkpaepijjeaa
