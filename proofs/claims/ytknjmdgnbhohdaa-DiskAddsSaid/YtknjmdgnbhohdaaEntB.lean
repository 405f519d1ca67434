/-
  strings.ContainsAny at the two bytes that no name has; which names may be.
-/
import Derived.Test.YtknjmdgnbhohdaaEntA
import Derived.Test.YtknjmdgnbhohdaaStenPlain
import Derived.Lib.OthersKept
namespace Go.Proofs.Ytknjmdgnbhohdaa
open Go.RowKit Go.Shelf

abbrev barS : ByteArray := ⟨#[47, 0]⟩
theorem barS_plain : ∀ j (h : j < barS.size), (barS[j]'h).toNat < 128 := by
  intro j h
  have hj : j = 0 ∨ j = 1 := by have : barS.size = 2 := rfl; omega
  rcases hj with rfl | rfl
  · show (47 : UInt8).toNat < 128; decide
  · show (0 : UInt8).toNat < 128; decide
/-- Where a sign stands among the two. -/
def barAt (r : Nat) : Int := if r = 47 then 0 else if r = 0 then 1 else -1
theorem barAt_byte (c : UInt8) : Lib.indexByte barS.data.toList ((c.toNat : Int).toNat.toUInt8) = barAt c.toNat := by
  have h : (c.toNat : Int).toNat.toUInt8 = c := by simp
  rw [h]
  show (if (47 : UInt8) == c then (0 : Int) else if (if (0 : UInt8) == c then (0 : Int) else if (-1 : Int) == -1 then -1 else -1 + 1) == -1 then -1 else (if (0 : UInt8) == c then (0 : Int) else if (-1 : Int) == -1 then -1 else -1 + 1) + 1) = _
  unfold barAt
  by_cases h1 : c = 47
  · subst h1; rfl
  · by_cases h0 : c = 0
    · subst h0; rfl
    · have e1 : ((47 : UInt8) == c) = false := by rw [beq_eq_false_iff_ne]; exact fun e => h1 e.symm
      have e0 : ((0 : UInt8) == c) = false := by rw [beq_eq_false_iff_ne]; exact fun e => h0 e.symm
      have n1 : c.toNat ≠ 47 := fun e => h1 (UInt8.toNat_inj.1 e)
      have n0 : c.toNat ≠ 0 := fun e => h0 (UInt8.toNat_inj.1 e)
      simp [e1, e0, n1, n0]
theorem indexRune_any (r : Nat) (w : World) : Calls Try.prog 62 #[.string barS, .int .i32 r] w fun e w' => e = .returned (.int .i64 (barAt r)) ∧ Below w.heap.size w w' := by
  rcases Nat.lt_or_ge r 128 with h | h
  · obtain ⟨c, hc⟩ : ∃ c : UInt8, c.toNat = r := ⟨UInt8.ofNat r, by simp; omega⟩
    subst hc
    refine (Try.strings_IndexRune_ascii barS (c.toNat : Int) w (by omega) (by omega)).mono ?_
    rintro e w' ⟨rfl, rfl⟩
    exact ⟨ret_int (barAt_byte c), Below.refl _ _⟩
  · have hb : barAt r = -1 := by unfold barAt; rw [if_neg (by omega), if_neg (by omega)]
    rw [hb]
    by_cases he : r = 65533
    · subst he
      exact indexRune_err barS barS_plain w
    · exact indexRune_far barS rfl barS_plain (r : Int) (by omega) (by omega) w

theorem barred_nat (c : UInt8) : barredL c = true ↔ c.toNat = 47 ∨ c.toNat = 0 := by
  unfold barredL
  rw [Bool.or_eq_true, beq_iff_eq, beq_iff_eq]
  constructor
  · rintro (rfl | rfl)
    · exact .inl rfl
    · exact .inr rfl
  · rintro (h | h)
    · exact .inl (UInt8.toNat_inj.1 h)
    · exact .inr (UInt8.toNat_inj.1 h)
theorem take_one (s : ByteArray) (pos : Nat) (h : pos < s.size) : s.data.toList.take (pos + 1) = s.data.toList.take pos ++ [s[pos]'h] := by
  rw [List.take_succ_eq_append_getElem (by rw [data_len]; exact h)]
  rfl
/-- The next sign: one of the two, or neither it nor its bytes. -/
theorem dec_bar (s : ByteArray) (pos : Nat) (h : pos < s.size) (hn : (s.data.toList.take pos).any barredL = false) :
    (barAt (Utf8.decode s pos).1 = -1 ∧ (s.data.toList.take (pos + (Utf8.decode s pos).2)).any barredL = false ∧ pos + (Utf8.decode s pos).2 ≤ s.size ∧ 1 ≤ (Utf8.decode s pos).2) ∨
    (0 ≤ barAt (Utf8.decode s pos).1 ∧ s.data.toList.any barredL = true) := by
  rcases Nat.lt_or_ge (s[pos]'h).toNat 128 with ha | ha
  · rw [dec_low s pos h ha]
    dsimp only
    by_cases hb : barredL (s[pos]'h) = true
    · refine .inr ⟨?_, List.any_eq_true.2 ⟨s[pos]'h, by exact Array.getElem_mem_toList (xs := s.data) h, hb⟩⟩
      unfold barAt
      rcases (barred_nat _).1 hb with e | e
      · rw [if_pos e]; exact Int.le_refl _
      · rw [if_neg (by omega), if_pos e]; decide
    · have hb' : barredL (s[pos]'h) = false := by simpa using hb
      refine .inl ⟨?_, by rw [take_one s pos h, List.any_append, hn]; simp [hb'], by omega, Nat.le_refl _⟩
      have hx : ¬ ((s[pos]'h).toNat = 47 ∨ (s[pos]'h).toNat = 0) := fun e => hb ((barred_nat _).2 e)
      unfold barAt
      rw [if_neg (fun e => hx (.inl e)), if_neg (fun e => hx (.inr e))]
  · obtain ⟨h1, h2⟩ := decode_high s pos h ha
    have h3 := (dec_high s pos h ha).1
    obtain ⟨r, _, r2, r3⟩ := dec_list s pos h ha
    refine .inl ⟨by unfold barAt; rw [if_neg (by omega), if_neg (by omega)], ?_, h3, h2⟩
    rw [r3, List.any_append, hn, Bool.false_or, List.any_eq_false]
    intro c hc hx
    have := r2 c hc
    rcases (barred_nat c).1 hx with e | e <;> omega

theorem iter_below {w w' : World} {k : Nat} {s : ByteArray} {pos : Nat} (h : w.heap[k]? = some (.stringIter s pos)) (hb : Below w.heap.size w w') : w'.heap[k]? = some (.stringIter s pos) :=
  (hb.block k (Array.getElem?_eq_some_iff.1 h).1).trans h
def AnyIs (l : List UInt8) (e : Ending) (w w' : World) : Prop := ∃ k : Int, e = .returned (.int .i64 k) ∧ decide (0 ≤ k) = l.any barredL ∧ Below w.heap.size w w'
set_option maxRecDepth 100000 in
set_option maxHeartbeats 2000000 in
theorem indexAny_short (s : ByteArray) (h8 : s.size ≤ 8) (w : World) : Calls Try.prog 61 #[.string s, .string barS] w fun e w' => AnyIs s.data.toList e w w' := by
  have h8z : decide ((8 : Int) < (s.size : Int)) = false := decide_eq_false (by omega)
  go_enter Try.func61, Try.ntmps61
  go_wp2_with fail
  refine (Try.strings_shouldUseASCIISet _ _).mono ?_
  rintro e w1 ⟨rfl, rfl⟩
  rw [h8z]
  go_wp2_with fail
  go_loopw [9, 10] (fun _ _ wr => ∃ pos : Nat, pos ≤ s.size ∧ (s.data.toList.take pos).any barredL = false ∧ wr.heap[w1.heap.size]? = some (.stringIter s pos) ∧ Below w1.heap.size w1 wr) (fun _ _ wr => s.size - wr.iterPos w1.heap.size)
  case atStart => exact ⟨0, Nat.zero_le _, rfl, World.iter_heap w1 _ 0, below_iter _ _ _⟩
  case round =>
    obtain ⟨pos, hle, hal, hit, hbw⟩ := hrel
    have HA := Lib.hid hal
    clear hal
    have hsz : w1.heap.size < wr.heap.size := (Array.getElem?_eq_some_iff.1 hit).1
    by_cases hp : pos < s.size
    · have hnx : ∀ ty, (Instr.next (.pointer (some ⟨w1.heap.size, 0, none⟩)) true ty).run Try.prog wr = _ := fun ty => Lib.run_next_any_at wr w1.heap.size s pos ty hit hp
      have hit2 := Lib.iterAt_heap wr w1.heap.size s pos (pos + (Utf8.decode s pos).2) hit
      have hbw2 := Lib.below_iterAt hbw (k := w1.heap.size) (by omega) s (pos + (Utf8.decode s pos).2)
      have hsz2 : w1.heap.size < (wr.iterAt w1.heap.size s (pos + (Utf8.decode s pos).2)).heap.size := by rw [Lib.iterAt_size]; omega
      have hdb := dec_bar s pos hp HA.out
      generalize wr.iterAt w1.heap.size s (pos + (Utf8.decode s pos).2) = W3 at *
      generalize (Utf8.decode s pos).1 = r at *
      generalize (Utf8.decode s pos).2 = m at *
      rcases hdb with ⟨d1, d2, d3, d4⟩ | ⟨d1, d2⟩
      · have D2 := Lib.hid d2
        clear d2
        go_wp2_with fail
        refine (indexRune_any r _).mono ?_
        rintro e W4 ⟨rfl, hb4⟩
        rw [d1]
        have hit4 := iter_below hit2 hb4
        go_wp2_with fail
        go_roundw
        case rel => exact ⟨pos + m, d3, D2.out, hit4, hbw2.trans (hb4.mono (by omega))⟩
        case measure =>
          simp only [World.iterPos, hit4, hit]
          omega
      · have D2 := Lib.hid d2
        clear d2
        go_wp2_with fail
        refine (indexRune_any r _).mono ?_
        rintro e W4 ⟨rfl, hb4⟩
        generalize barAt r = k at *
        go_wp2_with fail
        go_ret
        exact ⟨pos, rfl, by rw [D2.out]; simp, hbw2.trans (hb4.mono (by omega))⟩
    · have hnx : ∀ ty, (Instr.next (.pointer (some ⟨w1.heap.size, 0, none⟩)) true ty).run Try.prog wr = _ := fun ty => Lib.run_next_end_at wr w1.heap.size s pos ty hit hp
      have HN : Hid (s.data.toList.any barredL = false) := Lib.hid (by
        have := HA.out; rwa [List.take_of_length_le (by rw [data_len]; omega)] at this)
      go_wp2_with fail
      go_ret
      exact ⟨-1, rfl, by rw [HN.out]; rfl, hbw⟩

theorem set_info : (Try.prog.info? 94).map (fun i => (i.zero, i.size)) = some (some (.agg (Array.replicate 256 (.bool false))), 256) := by kernel_rfl
theorem bar_in (c : UInt8) : barS.data.toList.contains c = barredL c := by
  show List.contains [47, 0] c = _
  unfold barredL
  rw [Bool.eq_iff_iff]
  simp
set_option maxRecDepth 1000000 in
set_option maxHeartbeats 8000000 in
theorem indexAny_long (s : ByteArray) (h8 : 8 < s.size) (hm : s.size ≤ maxLen) (w : World) : Calls Try.prog 61 #[.string s, .string barS] w fun e w' => AnyIs s.data.toList e w w' := by
  unfold maxLen at hm
  obtain ⟨S, hS⟩ : ∃ S, S = Lib.setCells barS.data.toList := ⟨_, rfl⟩
  have hM := Try.strings_makeASCIISet (zero_of_info set_info).1 barS w (by decide) (fun j b h => by
    have hj : j < barS.size := by have := (List.getElem?_eq_some_iff.1 h).1; rwa [data_len] at this
    have := barS_plain j hj
    rw [Lib.data_getElem? barS j hj] at h
    rwa [Option.some.inj h] at this)
  rw [← hS] at hM
  have hsz : S.size = 256 := by rw [hS]; exact Lib.setCells_size _
  have hone : S.all (·.oneCell') = true := by rw [hS]; exact Lib.setCells_one _
  have hat : ∀ x : UInt8, S[x.toNat]? = some (.bool (barredL x)) := fun x => by rw [hS, Lib.setCells_at, bar_in]
  clear hS
  have h8z : decide ((8 : Int) < (s.size : Int)) = true := decide_eq_true (by omega)
  have hsc : (storeCells ⟨w.heap.size + 1, 0, none⟩ S.toList 0).run Try.prog ((w.alloc (.cells S 94)).alloc (.cells (Array.replicate 256 (.bool false)) 94)) = .ok () ((w.alloc (.cells S 94)).alloc (.cells S 94)) := by
    have := run_storeCells_new (P := Try.prog) (w.alloc (.cells S 94)) 94 (Array.replicate 256 (.bool false)) S (by rw [hsz]; exact (zero_of_info set_info).2) (by rw [hsz, Array.size_replicate]) hone
    simpa using this
  have HC : Hid (∀ x : UInt8, ((w.alloc (.cells S 94)).alloc (.cells S 94)).cell? ⟨w.heap.size + 1, x.toNat, none⟩ = some (.bool (barredL x))) := Lib.hid fun x => by
    rw [World.cell?_alloc_at _ _ _ _ (by simp), hat]
  have hB : Below w.heap.size w ((w.alloc (.cells S 94)).alloc (.cells S 94)) := ((Below.refl _ _).alloc (Nat.le_refl _) _).alloc (by simp) _
  have HB := Lib.hid hB
  clear hat hone hB
  go_enter Try.func61, Try.ntmps61
  go_wp2_with fail
  refine (Try.strings_shouldUseASCIISet _ _).mono ?_
  rintro e w1 ⟨rfl, rfl⟩
  rw [h8z]
  go_wp2_with fail
  refine hM.mono ?_
  rintro e w2 ⟨rfl, rfl⟩
  have hv := (zero_of_info set_info).1
  go_wp2_with fail
  clear hM hsc hv hsz
  generalize (w1.alloc (.cells S 94)).alloc (.cells S 94) = W0 at *
  go_loop [8] (fun i => ∃ k : Nat, i = .int .i64 k ∧ k ≤ s.size ∧ Hid ((s.data.toList.take k).any barredL = false)) (fun i => s.size - (intOf i).toNat)
  case atStart => exact ⟨0, rfl, Nat.zero_le _, Lib.hid rfl⟩
  case round =>
    obtain ⟨k, rfl, hk, hal⟩ := hrel
    by_cases hlt : k < s.size
    · have ht := take_one s k hlt
      obtain ⟨x, hx⟩ : ∃ x : UInt8, ∀ h, s[k]'h = x := ⟨s[k]'hlt, fun _ => rfl⟩
      rw [hx hlt] at ht
      have hcx := HC.out x
      have hm1 : x ∈ s.data.toList := by rw [← hx hlt]; exact Array.getElem_mem_toList (xs := s.data) hlt
      cases hb : barredL x
      · rw [hb] at hcx
        have HN : Hid ((s.data.toList.take (k + 1)).any barredL = false) := Lib.hid (by rw [ht, List.any_append, hal.out]; simp [hb])
        clear ht hm1
        go_wp2_with fail
        refine (Try.asciiSet_contains _ x _ _ hcx).mono ?_
        rintro e w3 ⟨rfl, rfl⟩
        go_wp2_with fail
        go_round
        case rel => exact ⟨k + 1, by go_num, hlt, HN⟩
        case measure => simp [intOf]; omega
      · rw [hb] at hcx
        have HN : Hid (s.data.toList.any barredL = true) := Lib.hid (List.any_eq_true.2 ⟨x, hm1, hb⟩)
        clear ht hm1
        go_wp2_with fail
        refine (Try.asciiSet_contains _ x _ _ hcx).mono ?_
        rintro e w3 ⟨rfl, rfl⟩
        go_wp2_with fail
        go_ret
        exact ⟨k, rfl, by rw [HN.out]; simp, HB.out⟩
    · have hke : k = s.size := by omega
      have HN : Hid (s.data.toList.any barredL = false) := Lib.hid (by
        have := hal.out; rwa [List.take_of_length_le (by rw [data_len]; omega)] at this)
      have hI2 : decide (k < s.size) = false := by simp; omega
      clear hke hlt
      go_wp2_with fail
      go_ret
      exact ⟨-1, rfl, by rw [HN.out]; rfl, HB.out⟩
theorem indexAny_any (s : ByteArray) (hm : s.size ≤ maxLen) (w : World) : Calls Try.prog 61 #[.string s, .string barS] w fun e w' => AnyIs s.data.toList e w w' := by
  rcases Nat.lt_or_ge 8 s.size with h | h
  · exact indexAny_long s h hm w
  · exact indexAny_short s h w
theorem containsAny_any (s : ByteArray) (hm : s.size ≤ maxLen) (w : World) : Calls Try.prog 59 #[.string s, .string barS] w fun e w' => e = .returned (.bool (s.data.toList.any barredL)) ∧ Below w.heap.size w w' := by
  go_enter Try.func59, Try.ntmps59
  go_wp2_with fail
  refine (indexAny_any s hm _).mono ?_
  rintro e w1 ⟨k, rfl, hk, hb⟩
  have HK := Lib.hid hk
  clear hk
  go_wp2_with fail
  go_ret
  exact ⟨ret_bool HK.out, hb⟩
end Go.Proofs.Ytknjmdgnbhohdaa
