/-
  stencil: Count, Check, cut, Letter, isLetter, drawAt.
-/
import Derived.Test.YtoombpdoagjaoaaKit
import Derived.Test.YtoombpdoagjaoaaShelf
import Derived.Test.YtoombpdoagjaoaaStenPlain
import Derived.Laws.Runes
import Derived.Lib.OthersKept
namespace Go.Proofs.Ytoombpdoagjaoaa
open Go.RowKit Go.Shelf

theorem ret_bool {a b : Bool} (h : a = b) : Ending.returned (.bool a) = .returned (.bool b) := by rw [h]
theorem ret_str {a b : ByteArray} (h : a = b) : Ending.returned (.string a) = .returned (.string b) := by rw [h]
theorem below_iter {w : World} (s : ByteArray) (p : Nat) : Below w.heap.size w (w.iter s p) := (Below.refl _ w).alloc (Nat.le_refl _) _
theorem take_one (s : ByteArray) (k : Nat) (h : k < s.size) : s.data.toList.take (k + 1) = s.data.toList.take k ++ [s[k]'h] := by
  rw [List.take_succ_eq_append_getElem (by simpa using h)]; rfl
theorem sign_yes (c : UInt8) (d : Nat) (h : c.toNat = d) : ((c.toNat : Int) == (d : Int)) = true := by rw [beq_iff_eq, h]
theorem sign_no (n d : Nat) (h : n ≠ d) : ((n : Int) == (d : Int)) = false := by rw [beq_eq_false_iff_ne]; omega

set_option maxHeartbeats 1000000 in
theorem count_any (s : ByteArray) (hs : s.size ≤ 65000) (w : World) :
    Calls Try.prog 10 #[.string s] w fun e W' => e = .returned (.int .i64 (xs s.data.toList)) ∧ Below w.heap.size w W' := by
  go_enter Try.func10, Try.ntmps10
  go_wp2
  go_loopw [3] (fun n W => ∃ pos : Nat, W = w.iter s pos ∧ pos ≤ s.size ∧ n = .int .i64 (xs (s.data.toList.take pos))) (fun _ W => s.size - W.iterPos w.heap.size)
  case atStart => exact ⟨0, rfl, Nat.zero_le _, rfl⟩
  case round =>
    obtain ⟨pos, rfl, hle, rfl⟩ := hrel
    have hx := xs_le (s.data.toList.take pos)
    have hx1 : xs (s.data.toList.take pos) ≤ 65000 := by simp only [List.length_take, data_len] at hx; omega
    clear hx
    by_cases hp : pos < s.size
    · have ht := take_one s pos hp
      by_cases ha : (s[pos]'hp).toNat < 128
      · have hnx : ∀ ty, (Instr.next (.pointer (some ⟨w.heap.size, 0, none⟩)) true ty).run Try.prog (w.iter s pos) = _ := fun ty => run_next_ascii w s pos ty hp ha
        by_cases hc : s[pos]'hp = 88
        · have hI := sign_yes (s[pos]'hp) 88 (by rw [hc]; rfl)
          have H : Hid (xs (s.data.toList.take (pos + 1)) = xs (s.data.toList.take pos) + 1) := Lib.hid (by rw [ht, hc, xs_yes])
          clear ht hc
          go_wp2
          go_roundw
          case rel => exact ⟨pos + 1, rfl, by omega, by rw [H.out]; go_num⟩
          case measure => simp; omega
        · have hI := sign_no (s[pos]'hp).toNat 88 (fun h => hc (UInt8.toNat_inj.1 h))
          have H : Hid (xs (s.data.toList.take (pos + 1)) = 0) := Lib.hid (by rw [ht, xs_no _ _ hc])
          clear ht hc
          go_wp2
          go_roundw
          case rel => exact ⟨pos + 1, rfl, by omega, by rw [H.out]; rfl⟩
          case measure => simp; omega
      · have ha' : 128 ≤ (s[pos]'hp).toNat := by omega
        have hnx : ∀ ty, (Instr.next (.pointer (some ⟨w.heap.size, 0, none⟩)) true ty).run Try.prog (w.iter s pos) = _ := fun ty => run_next_any w s pos ty hp
        obtain ⟨h1, h2⟩ := decode_high s pos hp ha'
        have h3 := (dec_high s pos hp ha').1
        have hI := sign_no (Utf8.decode s pos).1 88 (by omega)
        obtain ⟨r, r1, r2, r3⟩ := dec_list s pos hp ha'
        have H : Hid (xs (s.data.toList.take (pos + (Utf8.decode s pos).2)) = 0) := Lib.hid (by rw [r3, xs_app _ _ r1 r2])
        clear ht r1 r2 r3 r
        go_wp2
        go_roundw
        case rel => exact ⟨pos + (Utf8.decode s pos).2, rfl, h3, by rw [H.out]; rfl⟩
        case measure => simp; omega
    · obtain rfl : pos = s.size := by omega
      have hnx : ∀ ty, (Instr.next (.pointer (some ⟨w.heap.size, 0, none⟩)) true ty).run Try.prog (w.iter s s.size) = _ := fun ty => run_next_end w s s.size ty hp
      have H : Hid (s.data.toList.take s.size = s.data.toList) := Lib.hid (by rw [List.take_of_length_le (by simp)])
      go_wp2
      go_ret
      exact ⟨ret_int (by rw [H.out]), below_iter _ _⟩

/-- What Check answers. -/
def stenE (l : List UInt8) : Int := if xs l < 3 then 1 else 0
set_option maxHeartbeats 400000 in
theorem check_any (s : ByteArray) (hs : s.size ≤ 65000) (w : World) :
    Calls Try.prog 12 #[.string s] w fun e W' => e = .returned (.int .i64 (stenE s.data.toList)) ∧ Below w.heap.size w W' := by
  by_cases h : xs s.data.toList < 3
  · have H : Hid (stenE s.data.toList = 1) := Lib.hid (if_pos h)
    go_enter Try.func12, Try.ntmps12
    go_wp2_with fail
    refine (count_any s hs _).mono ?_
    rintro e w1 ⟨rfl, hb⟩
    go_wp2
    go_ret
    exact ⟨ret_int H.out.symm, hb⟩
  · have H : Hid (stenE s.data.toList = 0) := Lib.hid (if_neg h)
    have h' : 3 ≤ xs s.data.toList := by omega
    clear h
    go_enter Try.func12, Try.ntmps12
    go_wp2_with fail
    refine (count_any s hs _).mono ?_
    rintro e w1 ⟨rfl, hb⟩
    go_wp2
    go_ret
    exact ⟨ret_int H.out.symm, hb⟩

set_option maxHeartbeats 400000 in
theorem cut_any (s : ByteArray) (hs : s.size ≤ 65000) (w : World) :
    Calls Try.prog 20 #[.string s] w fun e W' => e = .returned (.tuple #[.string ⟨(s.data.toList.take (s.size - xs s.data.toList)).toArray⟩, .string ⟨(s.data.toList.drop (s.size - xs s.data.toList)).toArray⟩]) ∧ Below w.heap.size w W' := by
  have hx := xs_le s.data.toList
  rw [data_len] at hx
  obtain ⟨k, hk⟩ : ∃ k, k = s.size - xs s.data.toList := ⟨_, rfl⟩
  have hk1 : k ≤ s.size := by omega
  have hd : (s.size : Int) - (xs s.data.toList : Int) = (k : Int) := by omega
  have HK := Lib.hid hk
  have HD := Lib.hid hd
  have HX := Lib.hid hx
  clear hk hd
  go_enter Try.func20, Try.ntmps20
  go_wp2_with fail
  refine (count_any s hs _).mono ?_
  rintro e w1 ⟨rfl, hb⟩
  go_wp2
  rw [HD.out]
  go_quiet (fail)
  go_wp2
  go_ret2
  refine ⟨?_, below_drewN hb _⟩
  show Ending.returned (.tuple #[.string (s.extract 0 k), .string (s.extract k s.size)]) = _
  rw [extract_eq, extract_eq, ← HK.out, List.drop_zero, List.take_of_length_le (l := s.data.toList) (i := s.size) (by rw [data_len]; exact Nat.le_refl _)]

theorem quo36 (n : Int) : -36 < n.tmod 36 ∧ n.tmod 36 < 36 ∧ (n.tmod 36 + 36) % 36 = n % 36 := by
  have h := @Int.tmod_eq_emod n 36
  split at h <;> omega
abbrev lettS : ByteArray := ⟨#[97, 98, 99, 100, 101, 102, 103, 104, 105, 106, 107, 108, 109, 110, 111, 112, 113, 114, 115, 116, 117, 118, 119, 120, 121, 122, 48, 49, 50, 51, 52, 53, 54, 55, 56, 57]⟩
theorem lettS_size : lettS.size = 36 := rfl
theorem lettS_at (pos : Nat) (h : pos < lettS.size) : lettS[pos]'h = lettL.getD pos 0 := by
  have h' : pos < lettL.length := h
  rw [List.getD_eq_getElem?_getD, List.getElem?_eq_getElem h']
  rfl
theorem enc_ascii (c : UInt8) (h : c.toNat < 128) : Utf8.encode (c.toNat : Int) = ⟨#[c]⟩ := by
  have hv : Utf8.valid (c.toNat : Int) = true := by unfold Utf8.valid; simp; omega
  unfold Utf8.encode
  simp [hv, h]

set_option maxRecDepth 100000 in
set_option maxHeartbeats 1000000 in
theorem letter_any (n : Int) (w : World) :
    Calls Try.prog 14 #[.int .i64 n] w fun e W' => e = .returned (.string ⟨#[lett n]⟩) ∧ Below w.heap.size w W' := by
  obtain ⟨q1, q2, q3⟩ := quo36 n
  obtain ⟨k, hk⟩ : ∃ k : Nat, n % 36 = k := ⟨(n % 36).toNat, by omega⟩
  have hk36 : k < 36 := by omega
  have HL : Hid (lett n = lettL.getD k 0) := Lib.hid (by unfold lett; rw [hk]; rfl)
  rw [hk] at q3
  have Q3 := Lib.hid q3
  clear hk q3
  go_enter Try.func14, Try.ntmps14
  go_wp2
  rw [Q3.out]
  clear q1 q2
  go_loopw [] (fun W => ∃ pos : Nat, W = w.iter lettS pos ∧ pos ≤ k) (fun W => 36 - W.iterPos w.heap.size)
  case atStart => exact ⟨0, rfl, Nat.zero_le _⟩
  case round =>
    obtain ⟨pos, rfl, hle⟩ := hrel
    have hp : pos < lettS.size := by rw [lettS_size]; omega
    have ha : (lettS[pos]'hp).toNat < 128 := by rw [lettS_at]; exact lett_ascii pos (by omega)
    have hnx : ∀ ty, (Instr.next (.pointer (some ⟨w.heap.size, 0, none⟩)) true ty).run Try.prog (w.iter lettS pos) = _ := fun ty => run_next_ascii w lettS pos ty hp ha
    have he := enc_ascii _ ha
    rw [lettS_at] at hnx ha he
    have hL : Hid (pos = k → lett n = lettL.getD pos 0) := Lib.hid (fun e => by rw [e]; exact HL.out)
    generalize lettL.getD pos 0 = c at hnx ha he hL
    obtain ⟨d, hd⟩ : ∃ d : Nat, d = c.toNat := ⟨_, rfl⟩
    rw [← hd] at hnx ha he
    clear hd
    have hz := lettS_size
    rw [hz] at hp
    clear hz
    by_cases hc : pos = k
    · subst hc
      have hI : ((pos : Int) == (pos : Int)) = true := by rw [beq_iff_eq]
      go_wp2
      go_ret
      exact ⟨ret_str (by rw [hL.out trivial]), below_iter _ _⟩
    · have hI := sign_no pos k hc
      have hlt : pos < k := by omega
      clear hc he
      go_wp2
      go_roundw
      case rel => exact ⟨pos + 1, rfl, hlt⟩
      case measure => simp; omega

def isLettI (r : Int) : Bool := lettL.any fun c => (c.toNat : Int) == r
theorem isLettI_no (r : Int) (h : ∀ k, k < 36 → ((lettL.getD k 0).toNat : Int) ≠ r) : isLettI r = false := by
  unfold isLettI
  rw [List.any_eq_false]
  intro c hc
  obtain ⟨k, hk, rfl⟩ := List.mem_iff_getElem.1 hc
  have := h k hk
  rw [List.getD_eq_getElem?_getD, List.getElem?_eq_getElem hk] at this
  simpa using this
theorem isLettI_yes (r : Int) (k : Nat) (hk : k < 36) (h : ((lettL.getD k 0).toNat : Int) = r) : isLettI r = true := by
  unfold isLettI
  rw [List.any_eq_true]
  have hk' : k < lettL.length := hk
  refine ⟨lettL[k]'hk', List.getElem_mem _, ?_⟩
  rw [List.getD_eq_getElem?_getD, List.getElem?_eq_getElem hk'] at h
  simpa using h
def NoneYet (r : Int) (pos : Nat) : Prop := ∀ k, k < pos → ((lettL.getD k 0).toNat : Int) ≠ r
theorem NoneYet_succ {r : Int} {pos : Nat} (h : NoneYet r pos) (hn : r ≠ ((lettL.getD pos 0).toNat : Int)) : NoneYet r (pos + 1) := by
  intro k hk
  rcases Nat.lt_succ_iff_lt_or_eq.1 hk with h1 | rfl
  · exact h k h1
  · exact fun e => hn e.symm
set_option maxHeartbeats 1000000 in
theorem isLetter_any (r : Int) (w : World) :
    Calls Try.prog 22 #[.int .i32 r] w fun e W' => e = .returned (.bool (isLettI r)) ∧ Below w.heap.size w W' := by
  go_enter Try.func22, Try.ntmps22
  go_wp2
  go_loopw [] (fun W => ∃ pos : Nat, W = w.iter lettS pos ∧ pos ≤ 36 ∧ NoneYet r pos) (fun W => 36 - W.iterPos w.heap.size)
  case atStart => exact ⟨0, rfl, Nat.zero_le _, fun k hk => absurd hk (by omega)⟩
  case round =>
    obtain ⟨pos, rfl, hle, hn⟩ := hrel
    by_cases hp : pos < lettS.size
    · have ha : (lettS[pos]'hp).toNat < 128 := by rw [lettS_at]; exact lett_ascii pos hp
      have hnx : ∀ ty, (Instr.next (.pointer (some ⟨w.heap.size, 0, none⟩)) true ty).run Try.prog (w.iter lettS pos) = _ := fun ty => run_next_ascii w lettS pos ty hp ha
      rw [lettS_at] at hnx ha
      obtain ⟨d, hd⟩ : ∃ d : Nat, d = (lettL.getD pos 0).toNat := ⟨_, rfl⟩
      rw [← hd] at hnx ha
      rw [lettS_size] at hp
      by_cases hc : r = d
      · have hI : (r == (d : Int)) = true := by rw [beq_iff_eq, hc]
        have H : Hid (isLettI r = true) := Lib.hid (isLettI_yes r pos hp (by rw [← hd, hc]))
        clear hc hd hn
        go_wp2
        go_ret
        exact ⟨ret_bool H.out.symm, below_iter _ _⟩
      · have hI : (r == (d : Int)) = false := by rw [beq_eq_false_iff_ne]; exact hc
        have hn' : NoneYet r (pos + 1) := NoneYet_succ hn (by rw [← hd]; exact hc)
        clear hc hd hn
        go_wp2
        go_roundw
        case rel => exact ⟨pos + 1, rfl, by omega, hn'⟩
        case measure => simp; omega
    · have hnx : ∀ ty, (Instr.next (.pointer (some ⟨w.heap.size, 0, none⟩)) true ty).run Try.prog (w.iter lettS pos) = _ := fun ty => run_next_end w lettS pos ty hp
      have H : Hid (isLettI r = false) := Lib.hid (isLettI_no r fun k hk => hn k (by rw [lettS_size] at hp; omega))
      clear hn
      go_wp2
      go_ret
      exact ⟨ret_bool H.out.symm, below_iter _ _⟩

/-! ### Draws -/
/-- A slice that reads as a list of ints, out of blocks below B. -/
def RdI (B : Nat) (k : IntKind) (v : Value) (zs : List Int) (W : World) : Prop :=
  ∃ ao cap, v = .slice ao zs.length cap ∧ (zs ≠ [] → ∃ b off, ao = some ⟨b, off, none⟩ ∧ b < B ∧ ∀ j (h : j < zs.length), W.cell? ⟨b, off + j, none⟩ = some (.int k zs[j]))
theorem RdI.below {B : Nat} {k : IntKind} {v : Value} {zs : List Int} {W W' : World} (h : RdI B k v zs W) (hb : Below B W W') : RdI B k v zs W' := by
  obtain ⟨ao, cap, rfl, h⟩ := h
  refine ⟨ao, cap, rfl, fun hz => ?_⟩
  obtain ⟨b, off, rfl, hlt, hc⟩ := h hz
  exact ⟨b, off, rfl, hlt, fun j hj => (hb.cell (p := ⟨b, off + j, none⟩) hlt).trans (hc j hj)⟩
theorem RdI.mono {B B' : Nat} {k : IntKind} {v : Value} {zs : List Int} {W : World} (h : RdI B k v zs W) (hb : B ≤ B') : RdI B' k v zs W := by
  obtain ⟨ao, cap, rfl, h⟩ := h
  refine ⟨ao, cap, rfl, fun hz => ?_⟩
  obtain ⟨b, off, rfl, hlt, hc⟩ := h hz
  exact ⟨b, off, rfl, Nat.lt_of_lt_of_le hlt hb, hc⟩
theorem RdI.nil (B : Nat) (k : IntKind) (ao : Option Addr) (cap : Nat) (W : World) : RdI B k (.slice ao 0 cap) [] W := ⟨ao, cap, rfl, fun h => absurd rfl h⟩
theorem addr_add0 (g k : Nat) : (⟨g, 0, none⟩ : Addr).add k = ⟨g, k, none⟩ := by
  cases k with
  | zero => rfl
  | succ k => simp [Addr.add]
theorem RdI.own {B base : Nat} {e : TypeId} {v : Value} {zs : List Int} {W : World} {k : IntKind} (h : W.ownsRow base e 1 v zs.length (zs.map (Value.int k))) (hB : W.heap.size ≤ B) : RdI B k v zs W := by
  rcases h.2 with ⟨rfl, h0⟩ | ⟨g, cap, cur, rfl, _⟩
  · obtain rfl := List.eq_nil_of_length_eq_zero h0
    exact RdI.nil _ _ _ _ _
  refine ⟨_, cap, rfl, fun _ => ?_⟩
  refine ⟨g, 0, rfl, Nat.lt_of_lt_of_le (h.lt g rfl).2 hB, fun j hj => ?_⟩
  have := h.cells (g := g) rfl j (.int k zs[j]) (by simp [hj])
  rw [addr_add0] at this
  rwa [Nat.zero_add]

set_option maxHeartbeats 400000 in
theorem drawAt_any (B : Nat) (v : Value) (zs : List Int) (i : Nat) (w : World) (hv : RdI B .i64 v zs w) (_ : zs.length ≤ 65000) :
    Calls Try.prog 24 #[v, .int .i64 i] w fun e w' => e = .returned (.int .i64 (zs.getD i 0)) ∧ w = w' := by
  obtain ⟨ao, cap, rfl, h⟩ := hv
  by_cases hi : i < zs.length
  · obtain ⟨b, off, rfl, _, hc⟩ := h (fun e => by rw [e] at hi; simp at hi)
    have hcell := hc i hi
    have H : Hid (zs.getD i 0 = zs[i]) := Lib.hid (by rw [List.getD_eq_getElem?_getD, List.getElem?_eq_getElem hi]; rfl)
    clear hc h
    go_enter Try.func24, Try.ntmps24
    go_wp2
    go_ret
    exact ⟨ret_int H.out.symm, rfl⟩
  · have H : Hid (zs.getD i 0 = 0) := Lib.hid (by rw [List.getD_eq_getElem?_getD, List.getElem?_eq_none (by omega)]; rfl)
    clear h
    have hi' : zs.length ≤ i := by omega
    go_enter Try.func24, Try.ntmps24
    go_wp2
    go_ret
    exact ⟨ret_int H.out.symm, rfl⟩
end Go.Proofs.Ytoombpdoagjaoaa
