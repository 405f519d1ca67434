/-
  The document's Put; both Names.
-/
import Derived.Test.YtbabkpaepijjeaaEntF
namespace Go.Proofs.Ytbabkpaepijjeaa
open Go.RowKit Go.Shelf
attribute [local go_sem ↓] Go.wp_at_zero Go.wp_at_succ

theorem lo_take_len (l : List EntL) (n : Nm) (k : Nat) : (lo (l.take k) n).length ≤ l.length := by
  have := lo_len (l.take k) n
  rw [List.length_take] at this
  omega
theorem hi_take_len (l : List EntL) (n : Nm) (k : Nat) : (hi (l.take k) n).length ≤ l.length := by
  have : (hi (l.take k) n).length ≤ (l.take k).length := List.length_filter_le _ _
  rw [List.length_take] at this
  omega
theorem drop_len (l : List EntL) (n : Nm) : (dropL l n).length ≤ l.length := List.length_filter_le _ _
set_option maxRecDepth 100000 in
set_option maxHeartbeats 4000000 in
theorem rput_any (B : Nat) (v : Value) (l : List EntL) (n : Nm) (z : Int) (w : World) (hv : Rd B 2 v l.length (ents l) w) (hB : B ≤ w.heap.size) (hl : l.length ≤ 10000) :
    Calls Try.prog 25 #[v, .agg #[.string (bs n), .int .i64 z]] w fun e w' => GivesE (putL l (n, z)) e w w' := by
  obtain ⟨ao, cap, rfl, _, _⟩ := hv.form
  obtain ⟨i0, hi0, hz0, hz1, hz2⟩ := info_parts infoREnt
  have HV := Lib.hid hv
  clear hv
  go_enter Try.func25, Try.ntmps25
  go_wp2_with fail
  have hb0 : Below w.heap.size w (w.alloc (.cells #[.string (bs n), .int .i64 z] 45)) := (Below.refl _ w).alloc (Nat.le_refl _) _
  have hbF := heap_alloc_new w (.cells #[.string (bs n), .int .i64 z] 45)
  have hf0 : w.heap.size < (w.alloc (.cells #[.string (bs n), .int .i64 z] 45)).heap.size := by simp
  have HV0 := Lib.hid (HV.out.below (hb0.mono hB))
  generalize hnf : w.heap.size = nf at *
  generalize w.alloc (.cells #[.string (bs n), .int .i64 z] 45) = W0 at *
  refine (rdrop_any B _ l n _ HV0.out (by omega) hl).mono ?_
  rintro e w1 ⟨vr, rfl, hr, hb1⟩
  obtain ⟨aor, capr, rfl, _, _⟩ := hr.form
  have s1 := hb1.size
  have hbF1 := (hb1.block nf hf0).trans hbF
  have HB1 := Lib.hid (hb0.trans (hb1.mono (by omega)))
  have HE : Hid (lo (dropL l n) n ++ (n, z) :: hi (dropL l n) n = putL l (n, z)) := Lib.hid (by
    show (dropL l n).filter _ ++ (n, z) :: (dropL l n).filter _ = _
    rw [put_lo, put_hi]; rfl)
  have hRl : (dropL l n).length ≤ 10000 := by have := drop_len l n; omega
  generalize dropL l n = R at *
  have HR := Lib.hid hr
  clear hr hbF hb0 hb1
  go_wp2_with fail
  go_loopw [6, 7] (fun o i wr => ∃ k : Nat, i = .int .i64 k ∧ k ≤ R.length ∧ wr.ownsRow w1.heap.size 45 2 o (lo (R.take k) n).length (ents (lo (R.take k) n)) ∧ Below w1.heap.size w1 wr) (fun _ i _ => R.length - (intOf i).toNat)
  case atStart => exact ⟨0, rfl, Nat.zero_le _, World.ownsRow_lit (size := 2) w1 #[] 0 (Nat.le_refl _) (Nat.zero_le _) rfl, (Below.refl _ _).alloc (Nat.le_refl _) _⟩
  case round =>
    obtain ⟨k, rfl, hk, hown, hBr⟩ := hrel
    have sB := hBr.size
    have hbF2 := (hBr.block nf (by omega)).trans hbF1
    have ce0 : wr.cell? ⟨nf, 0, none⟩ = some (.string (bs n)) := by rw [Lib.cell_of_heap hbF2]; rfl
    have hll := lo_take_len R n k
    by_cases hlt : k < R.length
    · obtain ⟨b, off, cap', e, hn, hm, hb, hlen, hc⟩ := HR.out.at (by omega)
      injection e with e1 _ e2
      subst e1
      subst e2
      have hc0 := (hBr.cell (p := ⟨b, off + k * 2, none⟩) (by show b < _; omega)).trans (hc _ _ (ents_at0 R k hlt))
      have hc1 : wr.cell? ⟨b, off + k * 2 + 1, none⟩ = _ := (hBr.cell (p := ⟨b, off + k * 2 + 1, none⟩) (by show b < _; omega)).trans (hc (k * 2 + 1) _ (ents_at1 R k hlt))
      have k0 : (0 : Int) ≤ (k : Int) := by omega
      have k1 : (k : Int) < (R.length : Int) := by omega
      clear hc hbF2
      by_cases hq : (R[k]).1 < n
      · have hI := bless_yes hq
        have HD : Hid (lo (R.take (k + 1)) n = lo (R.take k) n ++ [R[k]]) := Lib.hid (filter_take_yes R _ k hlt (by simpa using hq))
        have ht : Hid (ents (lo (R.take (k + 1)) n) = ents (lo (R.take k) n) ++ [.string (bs (R[k]).1), .int .i64 (R[k]).2]) := Lib.hid (by rw [HD.out, ents_app]; rfl)
        have hlen2 : Hid ((lo (R.take (k + 1)) n).length = (lo (R.take k) n).length + 1) := Lib.hid (by rw [HD.out]; simp)
        clear hq
        generalize (lo (R.take k) n).length = dk at *
        go_wp2_with fail
        go_quiet (fail)
        have hown2 := ownsRow_drewN hown nq
        have hBr2 := below_drewN hBr nq
        go_wp2_with (at_builtin; refine wpList_append_own _ rfl (.tmp 28) (.tmp 33) 28 rfl w1.heap.size 45 i0 _ 2 24 Try.underlying28 hi0 hz0 hz1 hz2 rfl (by decide) _ dk _ rfl (hown2.alloc _) ⟨wr.heap.size, 0, none⟩ 1 1 [.string (bs (R[k]).1), .int .i64 (R[k]).2] rfl rfl (World.news_of_block (cs := #[.string (bs (R[k]).1), .int .i64 (R[k]).2]) (t := 45) (fr := (0, 0)) (heap_alloc_new (wr.drewN nq) _)) (by simp [Value.oneCell']) (by unfold maxLen; omega) (by omega) (by simp; omega) ?_)
        intro v3 w3 ho3 hgr3 _
        have hB3 := below_appended (Nat.le_refl _) hBr2 hown2 hgr3
        rw [← ht.out, ← hlen2.out] at ho3
        go_wp2_with fail
        go_roundw
        case rel => exact ⟨k + 1, by go_num, hlt, ho3, hB3⟩
        case measure => simp [intOf]; omega
      · have hI := bless_no hq
        have HD : Hid (lo (R.take (k + 1)) n = lo (R.take k) n) := Lib.hid (filter_take_no R _ k hlt (by simpa using hq))
        clear hq
        go_wp2_with fail
        go_quiet (fail)
        go_wp2_with fail
        go_roundw
        case rel => exact ⟨k + 1, by go_num, hlt, by rw [HD.out]; exact ownsRow_drewN hown nq, below_drewN hBr nq⟩
        case measure => simp [intOf]; omega
    · have hke : k = R.length := by omega
      have HT : Hid (R.take k = R) := Lib.hid (by rw [hke, List.take_length])
      have hge : R.length ≤ k := by omega
      rw [HT.out] at hown hll
      have ce1 : wr.cell? ⟨nf, 1, none⟩ = some (.int .i64 z) := by rw [Lib.cell_of_heap hbF2]; rfl
      have HS : Hid (ents (lo R n ++ [(n, z)]) = ents (lo R n) ++ [.string (bs n), .int .i64 z]) := Lib.hid (ents_app _ _)
      have HSl : Hid ((lo R n ++ [(n, z)]).length = (lo R n).length + 1) := Lib.hid (by simp)
      clear hke hlt hbF2
      generalize hdk : (lo R n).length = dk at *
      go_wp2_with (at_builtin; refine wpList_append_own _ rfl (.tmp 35) (.tmp 37) 28 rfl w1.heap.size 45 i0 _ 2 24 Try.underlying28 hi0 hz0 hz1 hz2 rfl (by decide) _ dk _ rfl (hown.alloc _) ⟨wr.heap.size, 0, none⟩ 1 1 [.string (bs n), .int .i64 z] rfl rfl (World.news_of_block (cs := #[.string (bs n), .int .i64 z]) (t := 45) (fr := (0, 0)) (heap_alloc_new wr _)) (by simp [Value.oneCell']) (by unfold maxLen; omega) (by omega) (by simp; omega) ?_)
      intro v3 w3 ho3 hgr3 _
      have hB3 := below_appended (Nat.le_refl _) hBr hown hgr3
      rw [← HS.out, ← HSl.out] at ho3
      have hAl : (lo R n ++ [(n, z)]).length ≤ 10001 := by rw [HSl.out]; omega
      have HEE : Hid ((lo R n ++ [(n, z)]) ++ hi R n = putL l (n, z)) := Lib.hid (by rw [← HE.out]; simp)
      have HO3 := Lib.hid ho3
      have HB3 := Lib.hid hB3
      clear hgr3 ho3 hB3 hown hBr ce0 ce1 hll sB HS HSl hdk
      generalize lo R n ++ [(n, z)] = A at *
      go_wp2_with fail
      go_loopw [6, 8] (fun o i wr => ∃ k : Nat, i = .int .i64 k ∧ k ≤ R.length ∧ wr.ownsRow w1.heap.size 45 2 o (A ++ hi (R.take k) n).length (ents (A ++ hi (R.take k) n)) ∧ Below w1.heap.size w1 wr) (fun _ i _ => R.length - (intOf i).toNat)
      case atStart => exact ⟨0, rfl, Nat.zero_le _, by have : A ++ hi (R.take 0) n = A := by simp [hi]
                                                       rw [this]; exact HO3.out, HB3.out⟩
      case round =>
        obtain ⟨k, rfl, hk, hown, hBr⟩ := hrel
        have sB := hBr.size
        have hbF2 := (hBr.block nf (by omega)).trans hbF1
        have ce0 : wr.cell? ⟨nf, 0, none⟩ = some (.string (bs n)) := by rw [Lib.cell_of_heap hbF2]; rfl
        have hll := hi_take_len R n k
        have hal : (A ++ hi (R.take k) n).length ≤ 20001 := by rw [List.length_append]; omega
        by_cases hlt : k < R.length
        · obtain ⟨b, off, cap', e, hn, hm, hb, hlen, hc⟩ := HR.out.at (by omega)
          injection e with e1 _ e2
          subst e1
          subst e2
          have hc0 := (hBr.cell (p := ⟨b, off + k * 2, none⟩) (by show b < _; omega)).trans (hc _ _ (ents_at0 R k hlt))
          have hc1 : wr.cell? ⟨b, off + k * 2 + 1, none⟩ = _ := (hBr.cell (p := ⟨b, off + k * 2 + 1, none⟩) (by show b < _; omega)).trans (hc (k * 2 + 1) _ (ents_at1 R k hlt))
          have k0 : (0 : Int) ≤ (k : Int) := by omega
          have k1 : (k : Int) < (R.length : Int) := by omega
          clear hc hbF2
          by_cases hq : n < (R[k]).1
          · have hI := bless_no (lt_as hq)
            have hI2 := beq_list_false (lt_ne hq).symm
            have HD : Hid (A ++ hi (R.take (k + 1)) n = A ++ hi (R.take k) n ++ [R[k]]) := Lib.hid (by
              have : hi (R.take (k + 1)) n = hi (R.take k) n ++ [R[k]] := filter_take_yes R _ k hlt (by simpa using hq)
              rw [this, List.append_assoc])
            have ht : Hid (ents (A ++ hi (R.take (k + 1)) n) = ents (A ++ hi (R.take k) n) ++ [.string (bs (R[k]).1), .int .i64 (R[k]).2]) := Lib.hid (by rw [HD.out, ents_app]; rfl)
            have hlen2 : Hid ((A ++ hi (R.take (k + 1)) n).length = (A ++ hi (R.take k) n).length + 1) := Lib.hid (by rw [HD.out, List.length_append (bs := [R[k]])]; rfl)
            clear hq
            generalize (A ++ hi (R.take k) n).length = dk at *
            go_wp2_with fail
            go_quiet (fail)
            have hown2 := ownsRow_drewN hown nq
            have hBr2 := below_drewN hBr nq
            go_wp2_with (at_builtin; refine wpList_append_own _ rfl (.tmp 53) (.tmp 58) 28 rfl w1.heap.size 45 i0 _ 2 24 Try.underlying28 hi0 hz0 hz1 hz2 rfl (by decide) _ dk _ rfl (hown2.alloc _) ⟨wr.heap.size, 0, none⟩ 1 1 [.string (bs (R[k]).1), .int .i64 (R[k]).2] rfl rfl (World.news_of_block (cs := #[.string (bs (R[k]).1), .int .i64 (R[k]).2]) (t := 45) (fr := (0, 0)) (heap_alloc_new (wr.drewN nq) _)) (by simp [Value.oneCell']) (by unfold maxLen; omega) (by omega) (by simp; omega) ?_)
            intro v5 w5 ho5 hgr5 _
            have hB5 := below_appended (Nat.le_refl _) hBr2 hown2 hgr5
            rw [← ht.out, ← hlen2.out] at ho5
            go_wp2_with fail
            go_roundw
            case rel => exact ⟨k + 1, by go_num, hlt, ho5, hB5⟩
            case measure => simp [intOf]; omega
          · have hlw := leq_ways hq
            have HD : Hid (A ++ hi (R.take (k + 1)) n = A ++ hi (R.take k) n) := Lib.hid (by
              have : hi (R.take (k + 1)) n = hi (R.take k) n := filter_take_no R _ k hlt (by simpa using hq)
              rw [this])
            clear hq
            rcases hlw with ⟨hI, hI2⟩ | ⟨hI, hI2⟩
            all_goals (
              go_wp2_with fail
              go_quiet (fail)
              go_wp2_with fail
              go_roundw
              case rel => exact ⟨k + 1, by go_num, hlt, by rw [HD.out]; exact ownsRow_drewN hown nq, below_drewN hBr nq⟩
              case measure => simp [intOf]; omega)
        · have hke : k = R.length := by omega
          have HT : Hid (R.take k = R) := Lib.hid (by rw [hke, List.take_length])
          have hge : R.length ≤ k := by omega
          rw [HT.out, HEE.out] at hown
          clear hke hlt
          go_wp2_with fail
          go_ret
          exact ⟨_, rfl, Rd.own hown (Nat.le_refl _), by rw [hnf]; exact HB1.out.trans (hBr.mono (by omega))⟩

/-- The names of entries. -/
def namesL (l : List EntL) : List Nm := l.map (·.1)
theorem names_len (l : List EntL) : (namesL l).length = l.length := List.length_map _
theorem names_succ (l : List EntL) (k : Nat) (h : k < l.length) : strs (namesL (l.take (k + 1))) = strs (namesL (l.take k)) ++ [.string (bs (l[k]).1)] := by
  unfold namesL
  rw [List.take_succ_eq_append_getElem h, List.map_append, strs_app]; rfl
theorem heap_al2 (W : World) (o1 o2 : Obj) : ((W.alloc o1).alloc o2).heap[W.heap.size + 1]? = some o2 := by
  have := heap_alloc_new (W.alloc o1) o2
  simpa using this
set_option maxRecDepth 100000 in
set_option maxHeartbeats 1000000 in
theorem rnames_any (B : Nat) (v : Value) (l : List EntL) (w : World) (hv : Rd B 2 v l.length (ents l) w) (hB : B ≤ w.heap.size) (hl : l.length ≤ 10000) :
    Calls Try.prog 23 #[v] w fun e w' => GivesS (namesL l) e w w' := by
  obtain ⟨ao, cap, rfl, _, _⟩ := hv.form
  obtain ⟨i0, hi0, hz0, hz1, hz2⟩ := info_parts infoStr
  have HV := Lib.hid hv
  clear hv
  go_enter Try.func23, Try.ntmps23
  go_wp2_with fail
  go_loopw [3, 4] (fun o i wr => ∃ k : Nat, i = .int .i64 k ∧ k ≤ l.length ∧ wr.ownsRow w.heap.size 9 1 o k (strs (namesL (l.take k))) ∧ Below w.heap.size w wr) (fun _ i _ => l.length - (intOf i).toNat)
  case atStart => exact ⟨0, rfl, Nat.zero_le _, World.ownsRow_lit (size := 1) w #[] 0 (Nat.le_refl _) (Nat.zero_le _) rfl, (Below.refl _ _).alloc (Nat.le_refl _) _⟩
  case round =>
    obtain ⟨k, rfl, hk, hown, hBr⟩ := hrel
    by_cases hlt : k < l.length
    · obtain ⟨b, off, cap', e, hn, hm, hb, hlen, hc⟩ := HV.out.at (by omega)
      injection e with e1 _ e2
      subst e1
      subst e2
      have hc0 := (hBr.cell (p := ⟨b, off + k * 2, none⟩) (by show b < _; omega)).trans (hc _ _ (ents_at0 l k hlt))
      have ht := Lib.hid (names_succ l k hlt)
      clear hc
      have sB := hBr.size
      go_wp2_with (at_builtin; refine wpList_append_own _ rfl (.tmp 12) (.tmp 18) 38 rfl w.heap.size 9 i0 _ 1 16 Try.underlying38 hi0 hz0 hz1 hz2 rfl (by decide) _ k _ rfl (hown.alloc _) ⟨wr.heap.size, 0, none⟩ 1 1 [.string (bs (l[k]).1)] rfl rfl (World.news_of_block (cs := #[.string (bs (l[k]).1)]) (t := 9) (fr := (0, 0)) (heap_alloc_new wr _)) (by simp [Value.oneCell']) (by unfold maxLen; omega) (by omega) (by simp; omega) ?_)
      intro v3 w3 ho3 hgr3 _
      have hB3 := below_appended (Nat.le_refl _) hBr hown hgr3
      rw [← ht.out] at ho3
      go_wp2
      go_roundw
      case rel => exact ⟨k + 1, by go_num, hlt, ho3, hB3⟩
      case measure => simp [intOf]; omega
    · have hke : k = l.length := by omega
      have HT : Hid (l.take k = l) := Lib.hid (by rw [hke, List.take_length])
      have HK := Lib.hid hke
      have hge : l.length ≤ k := by omega
      clear hke hlt
      go_wp2_with fail
      go_ret
      refine ⟨_, rfl, ?_, hBr⟩
      have := Rd.own hown (Nat.le_refl _)
      rw [HT.out, HK.out] at this
      rwa [names_len]
set_option maxRecDepth 100000 in
set_option maxHeartbeats 1000000 in
theorem names_any (B : Nat) (v : Value) (l : List EntL) (w : World) (hv : Rd B 2 v l.length (ents l) w) (hB : B ≤ w.heap.size) (hl : l.length ≤ 10000) :
    Calls Try.prog 22 #[v] w fun e w' => GivesS (namesL l) e w w' := by
  obtain ⟨ao, cap, rfl, _, _⟩ := hv.form
  obtain ⟨i0, hi0, hz0, hz1, hz2⟩ := info_parts infoStr
  have HV := Lib.hid hv
  clear hv
  go_enter Try.func22, Try.ntmps22
  go_wp2_with fail
  go_loopw [3, 8] (fun o i wr => ∃ k : Nat, i = .int .i64 k ∧ k ≤ l.length ∧ wr.ownsRow w.heap.size 9 1 o k (strs (namesL (l.take k))) ∧ Below w.heap.size w wr) (fun _ i _ => l.length - (intOf i).toNat)
  case atStart => exact ⟨0, rfl, Nat.zero_le _, ⟨rfl, .inl ⟨rfl, rfl⟩⟩, Below.refl _ _⟩
  case round =>
    obtain ⟨k, rfl, hk, hown, hBr⟩ := hrel
    by_cases hlt : k < l.length
    · obtain ⟨b, off, cap', e, hn, hm, hb, hlen, hc⟩ := HV.out.at (by omega)
      injection e with e1 _ e2
      subst e1
      subst e2
      have hc0 := (hBr.cell (p := ⟨b, off + k * 2, none⟩) (by show b < _; omega)).trans (hc _ _ (ents_at0 l k hlt))
      have hc1 : wr.cell? ⟨b, off + k * 2 + 1, none⟩ = _ := (hBr.cell (p := ⟨b, off + k * 2 + 1, none⟩) (by show b < _; omega)).trans (hc (k * 2 + 1) _ (ents_at1 l k hlt))
      have ht := Lib.hid (names_succ l k hlt)
      have hown1 := hown.alloc (.cells #[.string (bs (l[k]).1), .int .i64 (l[k]).2] 43)
      have hBr1 := hBr.alloc hBr.size (.cells #[.string (bs (l[k]).1), .int .i64 (l[k]).2] 43)
      clear hc
      have sB := hBr.size
      go_wp2_with (at_builtin; refine wpList_append_own _ rfl (.tmp 12) (.tmp 15) 38 rfl w.heap.size 9 i0 _ 1 16 Try.underlying38 hi0 hz0 hz1 hz2 rfl (by decide) _ k _ rfl (hown1.alloc _) ⟨wr.heap.size + 1, 0, none⟩ 1 1 [.string (bs (l[k]).1)] rfl rfl (World.news_of_block (cs := #[.string (bs (l[k]).1)]) (t := 9) (fr := (0, 0)) (heap_al2 wr _ _)) (by simp [Value.oneCell']) (by unfold maxLen; omega) (by omega) (by simp; omega) ?_)
      intro v3 w3 ho3 hgr3 _
      have hB3 := below_appended (Nat.le_refl _) hBr1 hown1 hgr3
      rw [← ht.out] at ho3
      go_wp2
      go_roundw
      case rel => exact ⟨k + 1, by go_num, hlt, ho3, hB3⟩
      case measure => simp [intOf]; omega
    · have hke : k = l.length := by omega
      have HT : Hid (l.take k = l) := Lib.hid (by rw [hke, List.take_length])
      have HK := Lib.hid hke
      have hge : l.length ≤ k := by omega
      clear hke hlt
      go_wp2_with fail
      go_ret
      refine ⟨_, rfl, ?_, hBr⟩
      have := Rd.own hown (Nat.le_refl _)
      rw [HT.out, HK.out] at this
      rwa [names_len]
end Go.Proofs.Ytbabkpaepijjeaa
