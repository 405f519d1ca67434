/-
  The document's Find, Drop, Put; both Names.
-/
import Derived.Test.YtbabkpaepijjeaaEntE
namespace Go.Proofs.Ytbabkpaepijjeaa
open Go.RowKit Go.Shelf
attribute [local go_sem ↓] Go.wp_at_zero Go.wp_at_succ

def vint (o : Option Int) : Int := o.getD (-1)
theorem find_take_yes {l : List EntL} {n : Nm} {k : Nat} (hk : k < l.length) (h : findL (l.take k) n = none) (e : l[k].1 = n) : findL l n = some l[k].2 := by
  have h1 : (l.take k).find? (fun e => e.1 == n) = none := by
    unfold findL at h
    rwa [Option.map_eq_none_iff] at h
  have h2 : l = l.take k ++ l[k] :: l.drop (k + 1) := by rw [List.getElem_cons_drop, List.take_append_drop]
  have h3 : (l.take k ++ l[k] :: l.drop (k + 1)).find? (fun e => e.1 == n) = some l[k] := by
    rw [List.find?_append, h1, Option.none_or, List.find?_cons_of_pos (by simpa using e)]
  unfold findL
  rw [show l.find? (fun e => e.1 == n) = some l[k] by rw [← h2] at h3; exact h3]
  rfl
theorem find_take_no {l : List EntL} {n : Nm} {k : Nat} (hk : k < l.length) (h : findL (l.take k) n = none) (e : l[k].1 ≠ n) : findL (l.take (k + 1)) n = none := by
  have h1 : (l.take k).find? (fun e => e.1 == n) = none := by
    unfold findL at h
    rwa [Option.map_eq_none_iff] at h
  unfold findL
  rw [List.take_succ_eq_append_getElem hk, List.find?_append, h1, Option.none_or, List.find?_cons_of_neg (by simpa using e)]
  rfl
def RFindIs (o : Option Int) (e : Ending) (W W' : World) : Prop := e = .returned (.tuple #[.int .i64 (vint o), .bool o.isSome]) ∧ W = W'
set_option maxRecDepth 100000 in
set_option maxHeartbeats 1000000 in
theorem rfind_any (B : Nat) (v : Value) (l : List EntL) (n : Nm) (w : World) (hv : Rd B 2 v l.length (ents l) w) (hl : l.length ≤ 10000) :
    Calls Try.prog 17 #[v, .string (bs n)] w fun e w' => RFindIs (findL l n) e w w' := by
  obtain ⟨ao, cap, rfl, _, _⟩ := hv.form
  have HV := Lib.hid hv
  clear hv
  go_enter Try.func17, Try.ntmps17
  go_wp2_with fail
  go_loop [6] (fun i => ∃ k : Nat, i = .int .i64 k ∧ k ≤ l.length ∧ Hid (findL (l.take k) n = none)) (fun i => l.length - (intOf i).toNat)
  case atStart => exact ⟨0, rfl, Nat.zero_le _, Lib.hid rfl⟩
  case round =>
    obtain ⟨k, rfl, hk, hF⟩ := hrel
    by_cases hlt : k < l.length
    · obtain ⟨b, off, cap', e, hn, hm, hb, hlen, hc⟩ := HV.out.at (by omega)
      injection e with e1 _ e2
      subst e1
      subst e2
      have hc0 := hc _ _ (ents_at0 l k hlt)
      have hc1 : w.cell? ⟨b, off + k * 2 + 1, none⟩ = _ := hc (k * 2 + 1) _ (ents_at1 l k hlt)
      clear hc
      by_cases hq : (l[k]).1 = n
      · have hI : ((l[k]).1 == n) = true := by rw [beq_iff_eq]; exact hq
        have HR : Hid (findL l n = some (l[k]).2) := Lib.hid (find_take_yes hlt hF.out hq)
        clear hq
        go_wp2_with fail
        go_ret2
        exact ⟨by rw [HR.out]; rfl, rfl⟩
      · have hI := beq_list_false hq
        have HR : Hid (findL (l.take (k + 1)) n = none) := Lib.hid (find_take_no hlt hF.out hq)
        clear hq
        go_wp2_with fail
        go_round
        case rel => exact ⟨k + 1, by go_num, hlt, HR⟩
        case measure => simp [intOf]; omega
    · have hke : k = l.length := by omega
      have HR : Hid (findL l n = none) := Lib.hid (by have := hF.out; rwa [hke, List.take_length] at this)
      have hI2 : decide (k < l.length) = false := by simp; omega
      clear hke hlt
      go_wp2_with fail
      go_ret2
      exact ⟨by rw [HR.out]; rfl, rfl⟩

/-- A call that gives a list of entries, in memory that is read from then on. -/
def GivesE (l : List EntL) (e : Ending) (W W' : World) : Prop := ∃ v, e = .returned v ∧ Rd W'.heap.size 2 v l.length (ents l) W' ∧ Below W.heap.size W W'
def GivesS (l : List Nm) (e : Ending) (W W' : World) : Prop := ∃ v, e = .returned v ∧ Rd W'.heap.size 1 v l.length (strs l) W' ∧ Below W.heap.size W W'
set_option maxRecDepth 100000 in
set_option maxHeartbeats 1000000 in
theorem rdrop_any (B : Nat) (v : Value) (l : List EntL) (n : Nm) (w : World) (hv : Rd B 2 v l.length (ents l) w) (hB : B ≤ w.heap.size) (hl : l.length ≤ 10000) :
    Calls Try.prog 20 #[v, .string (bs n)] w fun e w' => GivesE (dropL l n) e w w' := by
  obtain ⟨ao, cap, rfl, _, _⟩ := hv.form
  obtain ⟨i0, hi, hz0, hz1, hz2⟩ := info_parts infoREnt
  have HV := Lib.hid hv
  clear hv
  go_enter Try.func20, Try.ntmps20
  go_wp2_with fail
  go_loopw [5, 6] (fun o i wr => ∃ k : Nat, i = .int .i64 k ∧ k ≤ l.length ∧ wr.ownsRow w.heap.size 45 2 o (dropL (l.take k) n).length (ents (dropL (l.take k) n)) ∧ Below w.heap.size w wr) (fun _ i _ => l.length - (intOf i).toNat)
  case atStart => exact ⟨0, rfl, Nat.zero_le _, World.ownsRow_lit (size := 2) w #[] 0 (Nat.le_refl _) (Nat.zero_le _) rfl, (Below.refl _ _).alloc (Nat.le_refl _) _⟩
  case round =>
    obtain ⟨k, rfl, hk, hown, hBr⟩ := hrel
    by_cases hlt : k < l.length
    · obtain ⟨b, off, cap', e, hn, hm, hb, hlen, hc⟩ := HV.out.at (by omega)
      injection e with e1 _ e2
      subst e1
      subst e2
      have hc0 := (hBr.cell (p := ⟨b, off + k * 2, none⟩) (by show b < _; omega)).trans (hc _ _ (ents_at0 l k hlt))
      have hc1 : wr.cell? ⟨b, off + k * 2 + 1, none⟩ = _ := (hBr.cell (p := ⟨b, off + k * 2 + 1, none⟩) (by show b < _; omega)).trans (hc (k * 2 + 1) _ (ents_at1 l k hlt))
      have sB := hBr.size
      have hdl : (dropL (l.take k) n).length ≤ 10000 := by
        have := List.length_filter_le (fun e : EntL => !(e.1 == n)) (l.take k)
        rw [List.length_take] at this
        unfold dropL
        omega
      clear hc
      by_cases hq : (l[k]).1 = n
      · have hI : ((l[k]).1 == n) = true := by rw [beq_iff_eq]; exact hq
        have HD : Hid (dropL (l.take (k + 1)) n = dropL (l.take k) n) := Lib.hid (filter_take_no l _ k hlt (by simp [hq]))
        clear hq
        go_wp2_with fail
        go_roundw
        case rel => exact ⟨k + 1, by go_num, hlt, by rw [HD.out]; exact hown, hBr⟩
        case measure => simp [intOf]; omega
      · have hI := beq_list_false hq
        have HD : Hid (dropL (l.take (k + 1)) n = dropL (l.take k) n ++ [l[k]]) := Lib.hid (filter_take_yes l _ k hlt (by simpa using hq))
        have ht : Hid (ents (dropL (l.take (k + 1)) n) = ents (dropL (l.take k) n) ++ [.string (bs (l[k]).1), .int .i64 (l[k]).2]) := Lib.hid (by rw [HD.out, ents_app]; rfl)
        have hlen2 : Hid ((dropL (l.take (k + 1)) n).length = (dropL (l.take k) n).length + 1) := Lib.hid (by rw [HD.out]; simp)
        clear hq
        generalize (dropL (l.take k) n).length = dk at *
        go_wp2_with (at_builtin; refine wpList_append_own _ rfl (.tmp 21) (.tmp 26) 28 rfl w.heap.size 45 i0 _ 2 24 Try.underlying28 hi hz0 hz1 hz2 rfl (by decide) _ dk _ rfl (hown.alloc _) ⟨wr.heap.size, 0, none⟩ 1 1 [.string (bs (l[k]).1), .int .i64 (l[k]).2] rfl rfl (World.news_of_block (cs := #[.string (bs (l[k]).1), .int .i64 (l[k]).2]) (t := 45) (fr := (0, 0)) (heap_alloc_new wr _)) (by simp [Value.oneCell']) (by unfold maxLen; omega) (by omega) (by simp; omega) ?_)
        intro v3 w3 ho3 hgr3 _
        have hB3 := below_appended (Nat.le_refl _) hBr hown hgr3
        rw [← ht.out, ← hlen2.out] at ho3
        go_wp2
        go_roundw
        case rel => exact ⟨k + 1, by go_num, hlt, ho3, hB3⟩
        case measure => simp [intOf]; omega
    · have hke : k = l.length := by omega
      have HT : Hid (l.take k = l) := Lib.hid (by rw [hke, List.take_length])
      have hge : l.length ≤ k := by omega
      clear hke hlt
      go_wp2_with fail
      go_ret
      refine ⟨_, rfl, ?_, hBr⟩
      have := Rd.own hown (Nat.le_refl _)
      rw [HT.out] at this
      exact this
end Go.Proofs.Ytbabkpaepijjeaa
