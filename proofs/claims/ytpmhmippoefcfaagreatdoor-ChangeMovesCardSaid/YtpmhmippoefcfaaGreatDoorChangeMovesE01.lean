/-
  Small laws for walks: a region that draws its order, by an invariant over what has come up; such a region in a round of a loop over an iterator. Plain facts on paths as lists of bytes: the spans of their parts, and the parts themselves.
  route: partEnd, spans and its iterator.
  route: Split.
  route: Ups.
  route: Check.
  route: Base, Dir and what they share.
  route: Base, Dir, Join.
  Plain facts on paths, byte by byte.
  The reference's Split.
  The reference's Texts.
  The reference's Check and Base.
  Plain facts on the last part of a path.
  The reference's Ups, bare, Dir and Join.
  The reference's Dir and Join.
  The reference's Dir, whole, and Join.
  Plain laws on the parts of paths.
  The walk of RouteJoins. Bits of numbers, and modes as texts: plain facts.
  mode: digit, May, Mask; the document's May and Mask. Names of a directory, plainly: which names may be; what is found, put and dropped.
  Plain facts on stencils: how many blanks a text ends with, letters, signs; what is made; what fits.
  strings.IndexRune, IndexAny, ContainsAny at two plain bytes, in whatever text.
  strings.ContainsAny at the two bytes that no name has; which names may be.
  Which names may be: the program's and the document's.
  Lists of entries in memory; whether they are sorted: the program's and the document's.
  The document's Sorted, Find, Drop, Same, Names; the statements' its; the program's Names.
  The document's Sorted and Same of entries.
  The document's Find, Drop, Put; both Names.
  The document's Put; both Names.
  sort.Search, laid; the closure; where a name begins and ends.
  slices.Grow, laid; slices.Concat; what stands between two places, replaced.
  slices.Concat; what stands between two places, replaced.
  The program's replace, Find, Drop, Put. The document's Same; both New.
  Both New.
  slices.Clone of entries and of nodes; the program's own, Set. New blocks, and blocks that are written all over, by name: each law for one kind of goal, so that nothing but the world is sought. The program's Node; the document's dir, look. What the statements on ways have in common: whether a disk is right; spots are compared; the example. A disk that is right stays so: what is entered, linked, lost, and whose mode is changed. A disk that is right stays so: what is lost, linked, and whose mode is changed. A disk that is right stays so: what is renamed. A disk that is right stays so, whatever is done to it; and how large it becomes.
-/
import Derived.RangeFuncNested
import Derived.RangeFuncBound
import Derived.RangeFuncCalls
import Derived.RangeFuncLeaves
import Derived.RangeFuncBox
import Derived.Shelf.Abstract
import Derived.Shelf.RegionOpen
import Derived.WalkKit
import Derived.OwnWalkIn
import Derived.TacticsInMore
import Derived.LoopNIn
import Derived.LoopIn
import Derived.Lib.Hide
import Derived.Outline
import Derived.Deep.QuietTactic
import Derived.Deep.AppendLies
import Derived.BigQuiet
import Derived.Lib.Strings
import Derived.WalkSmall
import Derived.Shelf.Small.Strs
import Derived.Shelf.Strings.Search1
import Derived.Shelf.Strings.Prefix
import Derived.Laws.AppendOwn
import Derived.Laws.OwnMore
import Derived.Laws.AppendOwnNone
import Derived.WideShapes
import Derived.Lib.TrimByte
import Derived.Lib.Bytealg
import Derived.Laws.BitsLemmas
import Derived.Laws.RangeAny
import Derived.Laws.Runes
import Derived.Lib.Builder
import Derived.Deep.WholeRow
import Derived.WalkMore
import Derived.Lib.OthersKept
import Derived.Lib.QuietBelow
import Derived.Deep.DrawnRows
import Derived.Laws.Cover1
import Derived.Shelf.SlSorted.Search
import Derived.Shelf.Spec.SlicesGrow
import Derived.StillTailTactics
import Derived.Deep.RegionHeld3
import Derived.Deep.RegionLaw
import Derived.Handy
import Derived.Laws.IdiomCopy
import Derived.Lib.SliceRun
import Derived.LaidEql
import Derived.Stop.Asserts
import Derived.RowKitTokens
import Derived.Laws.ResultCell
import Derived.Deep.LoopGhost
import Derived.Test.YtpmhmippoefcfaaGreatDoorProg
import Derived.Test.YtpmhmippoefcfaaGreatDoorShelf
import Derived.Test.YtpmhmippoefcfaaGreatDoorB01
import Derived.Test.YtpmhmippoefcfaaGreatDoorB02
import Derived.Test.YtpmhmippoefcfaaGreatDoorB03
import Derived.Test.YtpmhmippoefcfaaGreatDoorB04
import Derived.Test.YtpmhmippoefcfaaGreatDoorB05
import Derived.Test.YtpmhmippoefcfaaGreatDoorB06
import Derived.Test.YtpmhmippoefcfaaGreatDoorB07
import Derived.Test.YtpmhmippoefcfaaGreatDoorB08
import Derived.Test.YtpmhmippoefcfaaGreatDoorB09
import Derived.Test.YtpmhmippoefcfaaGreatDoorB10
import Derived.Test.YtpmhmippoefcfaaGreatDoorB12
namespace Go.Proofs.YtpmhmippoefcfaaGreatDoor
open Go.RowKit
theorem one_new (W : World) (t : TypeId) (x : Value) : ∀ (j : Nat) (u : Value), [x][j]? = some u → (W.alloc (.cells #[x] t)).cell? ((⟨W.heap.size, 0, none⟩ : Addr).add j) = some u := by
  intro j u hj
  cases j with
  | zero => simp only [List.getElem?_cons_zero, Option.some.injEq] at hj; subst hj; exact (Boxed.new W t _).cell
  | succ j => simp at hj
theorem one_str (s : ByteArray) : ∀ u ∈ [Value.string s], u.oneCell' = true := by
  intro u hu; simp only [List.mem_singleton] at hu; subst hu; rfl
theorem below_appended {B : Nat} {w W w1 : World} {e : TypeId} {size k : Nat} {v : Value} {xs : List Value} {tmp : Obj} (hle : B ≤ w.heap.size) (hB : Below B w W) (hrow : W.ownsRow B e size v k xs) (hgrow : (W.alloc tmp).grownBy w1 v.ownBlock) : Below B w w1 := by
  have hsz := Nat.le_trans hle hB.size
  refine (hB.alloc hsz tmp).grown hgrow (by simp; omega) fun j ej => ?_
  rcases hrow.2 with ⟨rfl, _⟩ | ⟨g, cap, cur, rfl, hb, _, _⟩
  · simp [Value.ownBlock] at ej
  · obtain rfl : g = j := by simpa [Value.ownBlock] using ej
    exact hb
end Go.Proofs.YtpmhmippoefcfaaGreatDoor
namespace Go.Proofs.YtpmhmippoefcfaaGreatDoor
end Go.Proofs.YtpmhmippoefcfaaGreatDoor
namespace Go.Proofs.YtpmhmippoefcfaaGreatDoor
open Go.RowKit Go.Shelf
attribute [local go_sem] Oper.semAt_some wide_fn wide_depth
end Go.Proofs.YtpmhmippoefcfaaGreatDoor
namespace Go.Proofs.YtpmhmippoefcfaaGreatDoor
open Go.RowKit Go.Shelf
attribute [local go_sem] Oper.semAt_some wide_fn wide_depth
end Go.Proofs.YtpmhmippoefcfaaGreatDoor
namespace Go.Proofs.YtpmhmippoefcfaaGreatDoor
open Go.RowKit Go.Shelf
attribute [local go_sem] Oper.semAt_some wide_fn wide_depth
end Go.Proofs.YtpmhmippoefcfaaGreatDoor
namespace Go.Proofs.YtpmhmippoefcfaaGreatDoor
open Go.RowKit Go.Shelf
attribute [local go_sem] Oper.semAt_some wide_fn wide_depth
end Go.Proofs.YtpmhmippoefcfaaGreatDoor
namespace Go.Proofs.YtpmhmippoefcfaaGreatDoor
open Go.RowKit Go.Shelf
attribute [local go_sem] Oper.semAt_some wide_fn wide_depth
end Go.Proofs.YtpmhmippoefcfaaGreatDoor
namespace Go.Proofs.YtpmhmippoefcfaaGreatDoor
open Go.RowKit Go.Shelf
end Go.Proofs.YtpmhmippoefcfaaGreatDoor
namespace Go.Proofs.YtpmhmippoefcfaaGreatDoor
theorem partOf_len (l : List UInt8) (k : Nat) (st : Option Nat) : (partOf l k st).length ≤ k := by
  cases st with
  | none => simp [partOf]
  | some s => simp [partOf, cutS]; omega
/-- What the reference's loop holds ahead of place k: the parts that are closed, and where the open one began. -/
def RS (l : List UInt8) (k : Nat) (st : Option Nat) (xs : List (List UInt8)) : Prop :=
  xs ++ (sp k st (l.drop k)).map (cutS l) = parts l ∧ (∀ s, st = some s → s < k) ∧ (k = l.length → st = none) ∧ xs.length ≤ k
theorem RS_zero (l : List UInt8) : RS l 0 none [] := ⟨rfl, by simp, by simp, Nat.le_refl _⟩
theorem RS_end {l : List UInt8} {st : Option Nat} {xs : List (List UInt8)} (h : RS l l.length st xs) : xs = parts l := by
  obtain ⟨h1, _, h3, _⟩ := h
  rw [h3 rfl, sp_end] at h1; simpa using h1
theorem RS_skip {l : List UInt8} {k : Nat} {xs : List (List UInt8)} (h : RS l k none xs) (hk : k < l.length) (hc : l[k] = 47) : RS l (k + 1) none xs := by
  obtain ⟨h1, _, _, h4⟩ := h
  rw [sp_slash l k hk hc] at h1
  exact ⟨h1, by simp, by simp, by omega⟩
theorem RS_close {l : List UInt8} {k s : Nat} {xs : List (List UInt8)} (h : RS l k (some s) xs) (hk : k < l.length) (hc : l[k] = 47) : RS l (k + 1) none (xs ++ [partOf l k (some s)]) := by
  obtain ⟨h1, _, _, h4⟩ := h
  rw [sp_some_slash l s k hk hc] at h1
  exact ⟨by simpa [partOf] using h1, by simp, by simp, by simp; omega⟩
theorem RS_goon {l : List UInt8} {k : Nat} {st : Option Nat} {xs : List (List UInt8)} (h : RS l k st xs) (hk : k + 1 < l.length) (hc : l[k] ≠ 47) : RS l (k + 1) (some (st.getD k)) xs := by
  obtain ⟨h1, h2, _, h4⟩ := h
  refine ⟨?_, ?_, by omega, by omega⟩
  · rw [← h1]
    cases st with
    | none => rw [sp_none_part l k (by omega) hc]; rfl
    | some s => rw [sp_some_part l s k (by omega) hc]; rfl
  · intro s hs
    cases st with
    | none => simp at hs; omega
    | some s' => have := h2 s' rfl; simp at hs; omega
theorem RS_last {l : List UInt8} {k : Nat} {st : Option Nat} {xs : List (List UInt8)} (h : RS l k st xs) (hk : k < l.length) (hl : k + 1 = l.length) (hc : l[k] ≠ 47) : RS l (k + 1) none (xs ++ [partOf l (k + 1) (some (st.getD k))]) := by
  obtain ⟨h1, h2, _, h4⟩ := h
  refine ⟨?_, by simp, by simp, by simp; omega⟩
  rw [← h1]
  cases st with
  | none =>
    rw [sp_none_part l k hk hc, hl, sp_some_end, sp_end]; simp [partOf]
  | some s =>
    rw [sp_some_part l s k hk hc, hl, sp_some_end, sp_end]; simp [partOf]
end Go.Proofs.YtpmhmippoefcfaaGreatDoor
namespace Go.Proofs.YtpmhmippoefcfaaGreatDoor
open Go.RowKit Go.Shelf
theorem byte_eq (c : UInt8) : ((c.toNat : Int) == 47) = (c == 47) := by
  rw [Bool.eq_iff_iff, beq_iff_eq, beq_iff_eq]
  constructor
  · intro h; exact UInt8.toNat_inj.1 (by have e : (47 : UInt8).toNat = 47 := rfl; omega)
  · intro h; rw [h]; rfl
theorem pre_byte (s : ByteArray) (h : 0 < s.size) : Lib.hasPrefix s.data.toList [47] = (((s[0]'h).toNat : Int) == 47) := by
  rw [byte_eq, pre_eq]
  have e : ∃ c r, s.data.toList = c :: r ∧ s[0]'h = c := by
    cases hl : s.data.toList with
    | nil => rw [← data_len, hl] at h; cases h
    | cons c r =>
      refine ⟨c, r, rfl, ?_⟩
      have h0 : 0 < s.data.toList.length := by rw [data_len]; exact h
      show s.data.toList[0]'h0 = c
      simp only [hl, List.getElem_cons_zero]
  obtain ⟨c, r, hl, hc⟩ := e
  rw [hl, hc]
theorem suf_byte (s : ByteArray) (h : 0 < s.size) : Lib.hasSuffix s.data.toList [47] = (((s[s.size - 1]'(by omega)).toNat : Int) == 47) := by
  have hn : s.data.toList ≠ [] := by intro e; rw [← data_len, e] at h; cases h
  rw [byte_eq, suf_eq _ hn, List.getLast_eq_getElem]
  have e : s.data.toList[s.data.toList.length - 1]'(by rw [data_len]; omega) = s[s.size - 1]'(by omega) := by
    simp only [data_len]; rfl
  rw [e]
/-- A text, and the byte behind it. -/
theorem cat_one (s : ByteArray) (k : Nat) (h : k < s.size) (q : List UInt8) : (⟨q.toArray⟩ : ByteArray) ++ s.extract k (k + 1) = ⟨(q ++ [s[k]'h]).toArray⟩ := by
  have hl : k < s.data.toList.length := by rw [data_len]; exact h
  have e : List.drop k (List.take (k + 1) s.data.toList) = [s[k]'h] := by
    rw [List.take_succ_eq_append_getElem hl, List.drop_append_of_le_length (by simp; omega)]
    simp; rfl
  apply ByteArray.ext
  rw [extract_eq, e]
  simp
set_option maxRecDepth 100000 in
set_option maxHeartbeats 2000000 in
theorem rsplit_loop (s : ByteArray) (hs : s.size ≤ 65000) (w : World) :
    Calls Tryz.prog 76 #[.string s] w fun e W' => ∃ v, e = .returned (.tuple #[v, .bool (Lib.hasPrefix s.data.toList [47]), .bool (Lib.hasSuffix s.data.toList [47])]) ∧
      W'.ownsRow w.heap.size 9 1 v (parts s.data.toList).length (strs (parts s.data.toList)) ∧ Below w.heap.size w W' := by
  obtain ⟨i0, hi, hz0, hz1, hz2⟩ := info_parts infoStr
  go_enter Tryz.func76, Tryz.ntmps76
  go_wp2
  go_loopw [5, 6, 7] (fun v p i wr => ∃ (k : Nat) (st : Option Nat) (xs : List (List UInt8)) (q : List UInt8), i = .int .i64 k ∧ k ≤ s.size ∧ p = .string ⟨q.toArray⟩ ∧ q = partOf s.data.toList k st ∧ RS s.data.toList k st xs ∧
      wr.ownsRow w.heap.size 9 1 v xs.length (strs xs) ∧ Below w.heap.size w wr) (fun _ _ i _ => s.size - (intOf i).toNat)
  case atStart => exact ⟨0, none, [], [], rfl, Nat.zero_le _, rfl, rfl, RS_zero _, World.ownsRow_lit w #[] 0 (Nat.le_refl _) (Nat.zero_le _) rfl, (Below.refl _ _).alloc (Nat.le_refl _) _⟩
  case round =>
    obtain ⟨k, st, xs, q, rfl, hk, rfl, hq, hrs, hown, hB⟩ := hrel
    have hxl := hrs.2.2.2
    have hst := hrs.2.1
    have HR := Lib.hid hrs
    have HS := Lib.hid hst
    clear hrs hst
    by_cases hlt : k < s.size
    · have hll : k < s.data.toList.length := by rw [data_len]; exact hlt
      have hgl : s.data.toList[k]'hll = s[k]'hlt := rfl
      by_cases hc : s[k]'hlt = 47
      · have hcI : (((s[k]'hlt).toNat : Int) == 47) = true := by rw [hc]; rfl
        have hcN : (((s[k]'hlt).toNat : Int) != 47) = false := by rw [hc]; rfl
        cases st with
        | none =>
          have HR' := RS_skip HR.out hll (hgl.trans hc)
          obtain rfl : q = [] := hq
          have HR1 := Lib.hid HR'
          clear HR' hgl hc hll
          go_wp2
          go_roundw
          case rel => exact ⟨k + 1, none, xs, [], by go_num, by omega, rfl, rfl, HR1.out, hown, hB⟩
          case measure => simp [intOf]; omega
        | some b =>
          have HR' := RS_close HR.out hll (hgl.trans hc)
          rw [← hq] at HR'
          have HR1 := Lib.hid HR'
          have hqn : q ≠ [] := by rw [hq]; exact cutS_ne _ _ _ (HS.out b rfl) (Nat.le_of_lt hll)
          have hqI : (!q.isEmpty) = true := by simpa using hqn
          clear HR' hgl hc hll hqn hq
          go_wp2_with (at_builtin; refine wpList_append_own _ rfl _ _ 78 rfl w.heap.size 9 i0 (.string ByteArray.empty) 1 16 Tryz.underlying78 hi hz0 hz1 hz2 rfl (by decide) _ _ _ rfl (hown.alloc _) ⟨wr.heap.size, 0, none⟩ 1 1 [.string ⟨q.toArray⟩] rfl rfl (one_new _ _ _) (one_str _) (by unfold maxLen; omega) (by omega) (by have := hB.size; simp; omega) ?_; intro v' w1 hown' hgrow _; have hB1 := below_appended (Nat.le_refl _) hB hown hgrow)
          go_roundw
          case rel => exact ⟨k + 1, none, xs ++ [q], [], by go_num, by omega, rfl, rfl, HR1.out, by simpa [strs] using hown', hB1⟩
          case measure => simp [intOf]; omega
      · have hcI : (((s[k]'hlt).toNat : Int) == 47) = false := by
          rw [beq_eq_false_iff_ne]; intro h; exact hc (UInt8.toNat_inj.1 (by have e : (47 : UInt8).toNat = 47 := rfl; omega))
        have hcN : (((s[k]'hlt).toNat : Int) != 47) = true := by
          rw [bne_iff_ne]; intro h; exact hc (UInt8.toNat_inj.1 (by have e : (47 : UInt8).toNat = 47 := rfl; omega))
        obtain ⟨q', hq'⟩ : ∃ q', q' = q ++ [s[k]'hlt] := ⟨_, rfl⟩
        have hqp : q' = partOf s.data.toList (k + 1) (some (st.getD k)) := by rw [hq', hq, ← hgl]; exact partOf_goon HS.out hll
        have HQ := Lib.hid hqp
        have hcat : (⟨q.toArray⟩ : ByteArray) ++ s.extract k (k + 1) = ⟨q'.toArray⟩ := by rw [hq', cat_one s k hlt q]
        have hqI : (!q'.isEmpty) = true := by rw [hq']; simp
        have hroom : ¬ 9223372036854775807 < q.length + (min (k + 1) s.size - k) := by have := partOf_len s.data.toList k st; rw [← hq] at this; omega
        have g1 : (0 : Int) ≤ (k : Int) := by omega
        have g2 : (k : Int) ≤ (k : Int) + 1 := by omega
        have g3 : (k : Int) + 1 ≤ (s.size : Int) := by omega
        by_cases hl : k + 1 = s.size
        · have hkI : ((k : Int) == (s.size : Int) - 1) = true := by rw [beq_iff_eq]; omega
          have HR' := RS_last HR.out hll (by rw [data_len]; exact hl) (by rw [hgl]; exact hc)
          rw [← hqp] at HR'
          have HR1 := Lib.hid HR'
          clear HR' hgl hc hll hq hq' hqp hl
          go_wp2_with (at_builtin; refine wpList_append_own _ rfl _ _ 78 rfl w.heap.size 9 i0 (.string ByteArray.empty) 1 16 Tryz.underlying78 hi hz0 hz1 hz2 rfl (by decide) _ _ _ rfl (hown.alloc _) ⟨wr.heap.size, 0, none⟩ 1 1 [.string ⟨q'.toArray⟩] rfl rfl (one_new _ _ _) (one_str _) (by unfold maxLen; omega) (by omega) (by have := hB.size; simp; omega) ?_; intro v' w1 hown' hgrow _; have hB1 := below_appended (Nat.le_refl _) hB hown hgrow)
          go_roundw
          case rel => exact ⟨k + 1, none, xs ++ [q'], [], by go_num, by omega, rfl, rfl, HR1.out, by simpa [strs] using hown', hB1⟩
          case measure => simp [intOf]; omega
        · have hkI : ((k : Int) == (s.size : Int) - 1) = false := by rw [beq_eq_false_iff_ne]; omega
          have HR' := RS_goon HR.out (by rw [data_len]; omega) (by rw [hgl]; exact hc)
          have HR1 := Lib.hid HR'
          clear HR' hgl hc hll hq hq' hqp
          go_wp2
          go_roundw
          case rel => exact ⟨k + 1, _, xs, q', by go_num, by omega, rfl, HQ.out, HR1.out, hown, hB⟩
          case measure => simp [intOf]; omega
    · obtain rfl : k = s.size := by omega
      have HP : Hid (xs = parts s.data.toList) := Lib.hid (by have := HR.out; rw [← data_len] at this; exact RS_end this)
      obtain rfl := HP.out
      by_cases he : s.data.toList = []
      · have n1 := isEmpty_yes s he
        have n2 : (!s.toList.isEmpty) = false := by rw [n1]; rfl
        have e1 : Hid (Lib.hasPrefix s.data.toList [47] = false ∧ Lib.hasSuffix s.data.toList [47] = false) := Lib.hid (by rw [he]; exact ⟨rfl, rfl⟩)
        clear he
        go_wp2
        go_quiet (fail)
        go_wp2
        refine bodyPost_ret (v := .tuple #[u5, .bool false, .bool false]) (by simp [results, Tryz.results76, go_sem]) rfl ⟨u5, by rw [e1.out.1, e1.out.2], ownsRow_drewN hown _, below_drewN hB _⟩
      · have n1 := isEmpty_no s he
        have n2 : (!s.toList.isEmpty) = true := by rw [n1]; rfl
        have hpos : 0 < s.size := by rw [← data_len]; exact List.length_pos_iff.2 he
        have hposI : (0 : Int) < (s.size : Int) := by omega
        have hlast : (s.size : Int) - 1 < (s.size : Int) := by omega
        have hlast0 : (0 : Int) ≤ (s.size : Int) - 1 := by omega
        have h1I : (1 : Int) ≤ (s.size : Int) := by omega
        have hsum : IntKind.i64.wrap ((s.size : Int) - 1) = (s.size : Int) - 1 := IntWalk.i64_in _ (by omega)
        have htn : ((s.size : Int) - 1).toNat = s.size - 1 := by omega
        have HE := Lib.hid he
        clear he
        go_wp2
        go_quiet (fail)
        go_wp2
        refine bodyPost_ret (v := .tuple #[u5, .bool (((s[0]'hpos).toNat : Int) == 47), .bool (((s[s.size - 1]'(by omega)).toNat : Int) == 47)]) (by simp [results, Tryz.results76, go_sem]) rfl ⟨u5, ?_, ownsRow_drewN hown _, below_drewN hB _⟩
        rw [pre_byte s hpos, suf_byte s hpos]
end Go.Proofs.YtpmhmippoefcfaaGreatDoor
namespace Go.Proofs.YtpmhmippoefcfaaGreatDoor
open Go.RowKit Go.Shelf
/-- How the value of a row looks. -/
theorem ownsRow_form {W : World} {base : Nat} {e : TypeId} {size : Nat} {v : Value} {n : Nat} {xs : List Value} (h : W.ownsRow base e size v n xs) :
    ∃ ao cap, v = .slice ao n cap ∧ (0 < n → ∃ g, ao = some ⟨g, 0, none⟩) := by
  rcases h.2 with ⟨rfl, rfl⟩ | ⟨g, cap, _, rfl, _⟩
  · exact ⟨none, 0, rfl, fun h => (by omega)⟩
  · exact ⟨_, cap, rfl, fun _ => ⟨g, rfl⟩⟩
theorem addr_add (g k : Nat) : (⟨g, 0, none⟩ : Addr).add k = ⟨g, k, none⟩ := by
  unfold Addr.add; split
  · rename_i h; subst h; rfl
  · simp
theorem strs_get (ps : List (List UInt8)) (k : Nat) (h : k < ps.length) : (strs ps)[k]? = some (.string ⟨(ps.getD k []).toArray⟩) := by
  unfold strs
  rw [List.getElem?_map, List.getElem?_eq_getElem h]
  simp [List.getD, h]
end Go.Proofs.YtpmhmippoefcfaaGreatDoor
namespace Go.Proofs.YtpmhmippoefcfaaGreatDoor
open Go.RowKit Go.Shelf
theorem check_r3 {l : List UInt8} (h : l ≠ []) (h2 : ¬ 100 < l.length) (h3 : (0 : UInt8) ∉ l) {k : Nat} (hk : k < (parts l).length) (h4 : 12 < ((parts l).getD k []).length) : checkE l = 9 := by
  refine check_e3 h h2 h3 ?_
  have hs : k < (spans l).length := by simpa [parts] using hk
  refine ⟨(spans l)[k], List.getElem_mem hs, ?_⟩
  rw [← cutS_len l _ (List.getElem_mem hs)]
  simpa [parts, List.getD, hs] using h4
theorem check_r4 {l : List UInt8} (h : l ≠ []) (h2 : ¬ 100 < l.length) (h3 : (0 : UInt8) ∉ l) (h4 : ∀ k, k < (parts l).length → ((parts l).getD k []).length ≤ 12) : checkE l = 0 := by
  refine check_e4 h h2 h3 fun p hp => ?_
  obtain ⟨k, hk, rfl⟩ := List.getElem_of_mem hp
  rw [← cutS_len l _ (List.getElem_mem hk)]
  have := h4 k (by simpa [parts] using hk)
  simpa [parts, List.getD, hk] using this
def NoZero (l : List UInt8) (k : Nat) : Prop := ∀ (j : Nat) (h : j < l.length), j < k → l[j] ≠ 0
def Fits (ps : List (List UInt8)) (k : Nat) : Prop := ∀ j, j < k → (ps.getD j []).length ≤ 12
theorem NoZero_step {l : List UInt8} {k : Nat} (h : NoZero l k) (hk : k < l.length) (hc : l[k] ≠ 0) : NoZero l (k + 1) := by
  intro j hj hjk
  rcases Nat.lt_succ_iff_lt_or_eq.1 hjk with h1 | rfl
  · exact h j hj h1
  · exact hc
theorem NoZero_all {l : List UInt8} (h : NoZero l l.length) : (0 : UInt8) ∉ l := by
  intro hm
  obtain ⟨j, hj, he⟩ := List.getElem_of_mem hm
  exact h j hj hj he
theorem byte0 (c : UInt8) (h : c ≠ 0) : (((c.toNat : Int)) == 0) = false := by
  rw [beq_eq_false_iff_ne]; intro e; exact h (UInt8.toNat_inj.1 (by have : (0 : UInt8).toNat = 0 := rfl; omega))
set_option maxHeartbeats 400000 in
theorem rcheck_zero (s : ByteArray) (hs : s.size ≤ 100) (h1 : s.data.toList ≠ []) (h3 : (0 : UInt8) ∈ s.data.toList) (w : World) :
    Calls Tryz.prog 75 #[.string s] w fun e W' => e = .returned (.int .i64 1) ∧ W' = w := by
  have n1 := isEmpty_no s h1
  have H3 := Lib.hid h3
  clear h1 h3
  go_enter Tryz.func75, Tryz.ntmps75
  go_wp2
  go_loop [3] (fun i => ∃ k : Nat, i = .int .i64 k ∧ k ≤ s.size ∧ Hid (NoZero s.data.toList k)) (fun i => s.size - (intOf i).toNat)
  case atStart => exact ⟨0, rfl, Nat.zero_le _, Lib.hid (fun _ _ h => (by omega))⟩
  case round =>
    obtain ⟨k, rfl, hk, hz⟩ := hrel
    by_cases hlt : k < s.size
    · by_cases hc : s[k]'hlt = 0
      · have hcI : (((s[k]'hlt).toNat : Int) == 0) = true := by rw [hc]; rfl
        clear hc
        go_wp2
        go_ret
        exact ⟨rfl, rfl⟩
      · have hcI := byte0 _ hc
        have hz' : Hid (NoZero s.data.toList (k + 1)) := Lib.hid (NoZero_step hz.out (by rw [data_len]; exact hlt) hc)
        clear hc
        go_wp2
        go_round
        case rel => exact ⟨k + 1, by go_num, by omega, hz'⟩
        case measure => simp [intOf]; omega
    · obtain rfl : k = s.size := by omega
      exact absurd H3.out (NoZero_all (by have := hz.out; rwa [← data_len] at this))
set_option maxRecDepth 100000 in
set_option maxHeartbeats 1000000 in
theorem rcheck_ok (s : ByteArray) (hs : s.size ≤ 100) (h1 : s.data.toList ≠ []) (h3 : (0 : UInt8) ∉ s.data.toList) (w : World) :
    Calls Tryz.prog 75 #[.string s] w fun e W' => e = .returned (.int .i64 (checkE s.data.toList)) ∧ Below w.heap.size w W' := by
  have n1 := isEmpty_no s h1
  have H1 := Lib.hid h1
  have H3 := Lib.hid h3
  clear h1 h3
  go_enter Tryz.func75, Tryz.ntmps75
  go_wp2
  go_loop [3] (fun i => ∃ k : Nat, i = .int .i64 k ∧ k ≤ s.size) (fun i => s.size - (intOf i).toNat)
  case atStart => exact ⟨0, rfl, Nat.zero_le _⟩
  case round =>
    obtain ⟨k, rfl, hk⟩ := hrel
    by_cases hlt : k < s.size
    · have hcI := byte0 (s[k]'hlt) (fun e => H3.out (by
        have hl : k < s.data.toList.length := by rw [data_len]; exact hlt
        rw [← e]; exact List.getElem_mem hl))
      go_wp2
      go_round
      case rel => exact ⟨k + 1, by go_num, by omega⟩
      case measure => simp [intOf]; omega
    · go_wp2_with (go_at_call 76; refine (rsplit_loop _ (by omega) _).mono ?_; rintro e w' ⟨v, rfl, hown, hB⟩; obtain ⟨ao, cap, rfl, hf⟩ := ownsRow_form hown; have HF := Lib.hid hf; clear hf)
      have hle : (parts s.data.toList).length ≤ 65000 := by
        have := spans_len s.data.toList; rw [data_len] at this; simp only [parts, List.length_map]; omega
      obtain ⟨n, hn⟩ : ∃ n, n = (parts s.data.toList).length := ⟨_, rfl⟩
      rw [← hn] at hown hle ⊢
      rw [← hn] at HF
      have HN := Lib.hid hn
      clear hn
      go_loop [7] (fun i => ∃ k : Nat, i = .int .i64 k ∧ k ≤ n ∧ Hid (Fits (parts s.data.toList) k)) (fun i => n - (intOf i).toNat)
      case atStart => exact ⟨0, rfl, Nat.zero_le _, Lib.hid (fun _ h => (by omega))⟩
      case round =>
        obtain ⟨k, rfl, hk, hft⟩ := hrel
        by_cases hlt2 : k < n
        · obtain ⟨g, rfl⟩ := HF.out (by omega)
          have hc := hown.cells (g := g) rfl k _ (strs_get _ k (by rw [← HN.out]; exact hlt2))
          rw [addr_add] at hc
          obtain ⟨x, hx⟩ : ∃ x, x = (parts s.data.toList).getD k [] := ⟨_, rfl⟩
          rw [← hx] at hc
          have HX := Lib.hid hx
          clear hx
          have i0 : (0 : Int) ≤ (k : Int) := by omega
          have i1 : (k : Int) < (n : Int) := by omega
          by_cases hb : 12 < x.length
          · have hbI : (12 : Int) < (x.length : Int) := by omega
            have E : Hid (checkE s.data.toList = 9) := Lib.hid (check_r3 H1.out (by rw [data_len]; omega) H3.out (by rw [← HN.out]; exact hlt2) (by rw [← HX.out]; exact hb))
            go_wp2
            go_ret
            exact ⟨ret_int E.out.symm, hB⟩
          · have hbI : ¬ (12 : Int) < (x.length : Int) := by omega
            have hft' : Hid (Fits (parts s.data.toList) (k + 1)) := Lib.hid (fun j hj => by
              rcases Nat.lt_succ_iff_lt_or_eq.1 hj with h | rfl
              · exact hft.out j h
              · rw [← HX.out]; omega)
            go_wp2
            go_round
            case rel => exact ⟨k + 1, by go_num, by omega, hft'⟩
            case measure => simp [intOf]; omega
        · have E : Hid (checkE s.data.toList = 0) := Lib.hid (check_r4 H1.out (by rw [data_len]; omega) H3.out (fun j hj => hft.out j (by rw [← HN.out] at hj; omega)))
          go_wp2
          go_ret
          exact ⟨ret_int E.out.symm, hB⟩
set_option maxHeartbeats 400000 in
theorem rcheck_any (s : ByteArray) (w : World) :
    Calls Tryz.prog 75 #[.string s] w fun e W' => e = .returned (.int .i64 (checkE s.data.toList)) ∧ Below w.heap.size w W' := by
  by_cases h1 : s.data.toList = []
  · have n1 := isEmpty_yes s h1
    have E := Lib.hid (check_e0 h1)
    clear h1
    go_enter Tryz.func75, Tryz.ntmps75
    go_wp2
    go_ret
    exact ⟨ret_int E.out.symm, Below.refl _ _⟩
  · by_cases h2 : 100 < s.data.toList.length
    · have E := Lib.hid (check_e1 h1 h2)
      have n1 := isEmpty_no s h1
      have n2 : 100 < s.size := by rw [data_len] at h2; omega
      clear h1 h2
      go_enter Tryz.func75, Tryz.ntmps75
      go_wp2
      go_ret
      exact ⟨ret_int E.out.symm, Below.refl _ _⟩
    · have hs : s.size ≤ 100 := by rw [data_len] at h2; omega
      by_cases h3 : (0 : UInt8) ∈ s.data.toList
      · refine (rcheck_zero s hs h1 h3 w).mono fun e w' ⟨he, hw⟩ => ⟨?_, ?_⟩
        · rw [he, check_e2 h1 h2 h3]
        · rw [hw]; exact Below.refl _ _
      · exact rcheck_ok s hs h1 h3 w
end Go.Proofs.YtpmhmippoefcfaaGreatDoor
namespace Go.Proofs.YtpmhmippoefcfaaGreatDoor
end Go.Proofs.YtpmhmippoefcfaaGreatDoor
namespace Go.Proofs.YtpmhmippoefcfaaGreatDoor
open Go.RowKit Go.Shelf
end Go.Proofs.YtpmhmippoefcfaaGreatDoor
namespace Go.Proofs.YtpmhmippoefcfaaGreatDoor
open Go.RowKit Go.Shelf
end Go.Proofs.YtpmhmippoefcfaaGreatDoor
namespace Go.Proofs.YtpmhmippoefcfaaGreatDoor
open Go.RowKit Go.Shelf
end Go.Proofs.YtpmhmippoefcfaaGreatDoor
namespace Go.Proofs.YtpmhmippoefcfaaGreatDoor
end Go.Proofs.YtpmhmippoefcfaaGreatDoor
namespace Go.Proofs.YtpmhmippoefcfaaGreatDoor
open Go.RowKit Go.Shelf
end Go.Proofs.YtpmhmippoefcfaaGreatDoor
namespace Go.Proofs.YtpmhmippoefcfaaGreatDoor
open Go
theorem bv_sub (A R : BitVec 64) : (A &&& 7#64 &&& ~~~ (R &&& 7#64)) = 0#64 ↔ A &&& 7#64 &&& R = A &&& 7#64 := by
  constructor
  · intro h
    apply BitVec.eq_of_getLsbD_eq
    intro i hi
    have := congrArg (fun x : BitVec 64 => x.getLsbD i) h
    simp only [BitVec.getLsbD_and, BitVec.getLsbD_not, BitVec.getLsbD_zero, hi, decide_true, Bool.true_and] at this ⊢
    revert this
    cases A.getLsbD i <;> cases R.getLsbD i <;> cases (7#64).getLsbD i <;> simp
  · intro h
    apply BitVec.eq_of_getLsbD_eq
    intro i hi
    have := congrArg (fun x : BitVec 64 => x.getLsbD i) h
    simp only [BitVec.getLsbD_and, BitVec.getLsbD_not, BitVec.getLsbD_zero, hi, decide_true, Bool.true_and] at this ⊢
    revert this
    cases A.getLsbD i <;> cases R.getLsbD i <;> cases (7#64).getLsbD i <;> simp
theorem sub_and (want rights : Int) : (bits .and .i64 (want % 8) rights = want % 8) ↔ subB want rights = true := by
  have h : want % 8 = (V want &&& V 7).toInt := by rw [← i64_and7, and_V]
  rw [h, and_V, V_toInt, toInt_inj_iff]
  unfold subB
  rw [beq_iff_eq, bv_sub]
  rfl
theorem sub_and8 (want rights : Int) : (bits .and .i64 (want % 8) (rights % 8) = want % 8) ↔ subB want rights = true := by
  rw [sub_and]
  unfold subB
  have h : V (rights % 8) = V rights &&& 7#64 := by rw [← i64_and7, and_V, V_toInt]; rfl
  rw [h, BitVec.and_assoc (V rights), BitVec.and_self]
end Go.Proofs.YtpmhmippoefcfaaGreatDoor
namespace Go.Proofs.YtpmhmippoefcfaaGreatDoor
open Go.RowKit
theorem rmay_any (m owner who want : Int) (w : World) : Calls Tryz.prog 78 #[.int .i64 m, .int .i64 owner, .int .i64 who, .int .i64 want] w fun e w' => e = .returned (.bool (mayB m owner who want)) ∧ w = w' := by
  by_cases h0 : who = 0
  · subst h0
    have H : Hid (mayB m owner 0 want = true) := Lib.hid (may_zero _ _ _)
    go_enter Tryz.func78, Tryz.ntmps78
    go_wp2
    go_ret
    exact ⟨ret_bool H.out.symm, rfl⟩
  · have h0I : (who == 0) = false := by rw [beq_eq_false_iff_ne]; exact h0
    by_cases ho : owner = who
    · have hoI : (owner == who) = true := by rw [beq_iff_eq]; exact ho
      have H : Hid (mayB m owner who want = subB want (m / 8)) := Lib.hid (by unfold mayB; rw [if_neg h0, if_pos ho])
      clear h0 ho
      go_enter Tryz.func78, Tryz.ntmps78
      go_wp2
      go_ret
      refine ⟨ret_bool ?_, rfl⟩
      rw [H.out, i64_and7, i64_and7, Bool.eq_iff_iff, beq_iff_eq]
      exact sub_and8 _ _
    · have hoI : (owner == who) = false := by rw [beq_eq_false_iff_ne]; exact ho
      have H : Hid (mayB m owner who want = subB want m) := Lib.hid (by unfold mayB; rw [if_neg h0, if_neg ho])
      clear h0 ho
      go_enter Tryz.func78, Tryz.ntmps78
      go_wp2
      go_ret
      refine ⟨ret_bool ?_, rfl⟩
      rw [H.out, i64_and7, i64_and7, Bool.eq_iff_iff, beq_iff_eq]
      exact sub_and8 _ _
end Go.Proofs.YtpmhmippoefcfaaGreatDoor
namespace Go.Proofs.YtpmhmippoefcfaaGreatDoor
theorem find_skip (a m c : List EntL) (o : Nm) (hm : ∀ e ∈ m, e.1 ≠ o) : findL (a ++ m ++ c) o = findL (a ++ c) o := by
  have : m.find? (fun e => e.1 == o) = none := List.find?_eq_none.2 fun e he => by simpa using hm e he
  unfold findL
  rw [List.find?_append, List.find?_append, List.find?_append, this, Option.or_none]
theorem sorted_drop {l : List EntL} (h : SortedP l) (n : Nm) : SortedP (dropL l n) := h.sub List.filter_sublist
theorem find_put (l : List EntL) (n : Nm) (i : Int) : findL (putL l (n, i)) n = some i := by
  rw [put_mid]
  exact find_parts _ _ _ _ (fun e he => lt_ne (mem_lo.1 he).2) fun e he => (lt_ne (mem_hi.1 he).2).symm
theorem find_put_other {l : List EntL} (h : Up l) (n o : Nm) (i : Int) (ho : o ≠ n) : findL (putL l (n, i)) o = findL l o := by
  rw [put_mid, find_skip _ _ _ _ fun e he => by rw [mid_name he]; exact ho.symm]
  have := find_skip (lo l n) (mid n (findL l n)) (hi l n) o fun e he => by rw [mid_name he]; exact ho.symm
  rw [← eparts h n] at this
  exact this.symm
theorem find_drop (l : List EntL) (n : Nm) : findL (dropL l n) n = none := by
  unfold findL
  rw [Option.map_eq_none_iff, List.find?_eq_none]
  intro e he
  have := (List.mem_filter.1 he).2
  simpa using this
end Go.Proofs.YtpmhmippoefcfaaGreatDoor
namespace Go.Proofs.YtpmhmippoefcfaaGreatDoor
end Go.Proofs.YtpmhmippoefcfaaGreatDoor
namespace Go.Proofs.YtpmhmippoefcfaaGreatDoor
open Go.RowKit Go.Shelf
end Go.Proofs.YtpmhmippoefcfaaGreatDoor
namespace Go.Proofs.YtpmhmippoefcfaaGreatDoor
open Go.RowKit Go.Shelf
end Go.Proofs.YtpmhmippoefcfaaGreatDoor
namespace Go.Proofs.YtpmhmippoefcfaaGreatDoor
open Go.RowKit Go.Shelf
end Go.Proofs.YtpmhmippoefcfaaGreatDoor
namespace Go.Proofs.YtpmhmippoefcfaaGreatDoor
open Go.RowKit Go.Shelf
attribute [local go_sem ↓] Go.wp_at_zero Go.wp_at_succ
end Go.Proofs.YtpmhmippoefcfaaGreatDoor
namespace Go.Proofs.YtpmhmippoefcfaaGreatDoor
open Go.RowKit Go.Shelf
attribute [local go_sem ↓] Go.wp_at_zero Go.wp_at_succ
end Go.Proofs.YtpmhmippoefcfaaGreatDoor
namespace Go.Proofs.YtpmhmippoefcfaaGreatDoor
open Go.RowKit Go.Shelf
attribute [local go_sem ↓] Go.wp_at_zero Go.wp_at_succ
end Go.Proofs.YtpmhmippoefcfaaGreatDoor
namespace Go.Proofs.YtpmhmippoefcfaaGreatDoor
open Go.RowKit Go.Shelf
attribute [local go_sem ↓] Go.wp_at_zero Go.wp_at_succ
theorem find_take_yes {l : List EntL} {n : Nm} {k : Nat} (hk : k < l.length) (h : findL (l.take k) n = none) (e : l[k].1 = n) : findL l n = some l[k].2 := by
  have h1 : (l.take k).find? (fun e => e.1 == n) = none := by
    unfold findL at h
    rwa [Option.map_eq_none_iff] at h
  have h2 : l = l.take k ++ l[k] :: l.drop (k + 1) := by rw [List.getElem_cons_drop, List.take_append_drop]
  have h3 : (l.take k ++ l[k] :: l.drop (k + 1)).find? (fun e => e.1 == n) = some l[k] := by
    rw [List.find?_append, h1, Option.none_or, List.find?_cons_of_pos (by simpa using e)]
  unfold findL
  rw [show l.find? (fun e => e.1 == n) = some l[k] by rw [← h2] at h3; exact h3]
  rfl
theorem find_take_no {l : List EntL} {n : Nm} {k : Nat} (hk : k < l.length) (h : findL (l.take k) n = none) (e : l[k].1 ≠ n) : findL (l.take (k + 1)) n = none := by
  have h1 : (l.take k).find? (fun e => e.1 == n) = none := by
    unfold findL at h
    rwa [Option.map_eq_none_iff] at h
  unfold findL
  rw [List.take_succ_eq_append_getElem hk, List.find?_append, h1, Option.none_or, List.find?_cons_of_neg (by simpa using e)]
  rfl
def RFindIs (o : Option Int) (e : Ending) (W W' : World) : Prop := e = .returned (.tuple #[.int .i64 (vint o), .bool o.isSome]) ∧ W = W'
set_option maxRecDepth 100000 in
set_option maxHeartbeats 1000000 in
theorem rfind_any (B : Nat) (v : Value) (l : List EntL) (n : Nm) (w : World) (hv : Rd B 2 v l.length (ents l) w) (hl : l.length ≤ 10000) :
    Calls Tryz.prog 37 #[v, .string (bs n)] w fun e w' => RFindIs (findL l n) e w w' := by
  obtain ⟨ao, cap, rfl, _, _⟩ := hv.form
  have HV := Lib.hid hv
  clear hv
  go_enter Tryz.func37, Tryz.ntmps37
  go_wp2_with fail
  go_loop [6] (fun i => ∃ k : Nat, i = .int .i64 k ∧ k ≤ l.length ∧ Hid (findL (l.take k) n = none)) (fun i => l.length - (intOf i).toNat)
  case atStart => exact ⟨0, rfl, Nat.zero_le _, Lib.hid rfl⟩
  case round =>
    obtain ⟨k, rfl, hk, hF⟩ := hrel
    by_cases hlt : k < l.length
    · obtain ⟨b, off, cap', e, hn, hm, hb, hlen, hc⟩ := HV.out.at (by omega)
      injection e with e1 _ e2
      subst e1
      subst e2
      have hc0 := hc _ _ (ents_at0 l k hlt)
      have hc1 : w.cell? ⟨b, off + k * 2 + 1, none⟩ = _ := hc (k * 2 + 1) _ (ents_at1 l k hlt)
      clear hc
      by_cases hq : (l[k]).1 = n
      · have hI : ((l[k]).1 == n) = true := by rw [beq_iff_eq]; exact hq
        have HR : Hid (findL l n = some (l[k]).2) := Lib.hid (find_take_yes hlt hF.out hq)
        clear hq
        go_wp2_with fail
        go_ret2
        exact ⟨by rw [HR.out]; rfl, rfl⟩
      · have hI := beq_list_false hq
        have HR : Hid (findL (l.take (k + 1)) n = none) := Lib.hid (find_take_no hlt hF.out hq)
        clear hq
        go_wp2_with fail
        go_round
        case rel => exact ⟨k + 1, by go_num, hlt, HR⟩
        case measure => simp [intOf]; omega
    · have hke : k = l.length := by omega
      have HR : Hid (findL l n = none) := Lib.hid (by have := hF.out; rwa [hke, List.take_length] at this)
      have hI2 : decide (k < l.length) = false := by simp; omega
      clear hke hlt
      go_wp2_with fail
      go_ret2
      exact ⟨by rw [HR.out]; rfl, rfl⟩
end Go.Proofs.YtpmhmippoefcfaaGreatDoor
namespace Go.Proofs.YtpmhmippoefcfaaGreatDoor
open Go.RowKit Go.Shelf
attribute [local go_sem ↓] Go.wp_at_zero Go.wp_at_succ
end Go.Proofs.YtpmhmippoefcfaaGreatDoor
namespace Go.Proofs.YtpmhmippoefcfaaGreatDoor
open Go.RowKit Go.Shelf
attribute [local go_sem ↓] Go.wp_at_zero Go.wp_at_succ
end Go.Proofs.YtpmhmippoefcfaaGreatDoor
namespace Go.Proofs.YtpmhmippoefcfaaGreatDoor
open Go.RowKit Go.Shelf
open Go.WideShapes (add_plain)
attribute [local go_sem ↓] Go.wp_at_zero Go.wp_at_succ
end Go.Proofs.YtpmhmippoefcfaaGreatDoor
namespace Go.Proofs.YtpmhmippoefcfaaGreatDoor
open Go.RowKit Go.Shelf
open Go.WideShapes (add_plain)
attribute [local go_sem ↓] Go.wp_at_zero Go.wp_at_succ
end Go.Proofs.YtpmhmippoefcfaaGreatDoor
namespace Go.Proofs.YtpmhmippoefcfaaGreatDoor
open Go.RowKit Go.Shelf
open Go.WideShapes (add_plain)
attribute [local go_sem ↓] Go.wp_at_zero Go.wp_at_succ
end Go.Proofs.YtpmhmippoefcfaaGreatDoor
namespace Go.Proofs.YtpmhmippoefcfaaGreatDoor
open Go.RowKit Go.Shelf
attribute [local go_sem ↓] Go.wp_at_zero Go.wp_at_succ
def sameD (a b : List NodeL) (m1 r1 m2 r2 : Int) : Bool := decide (m1 = m2 ∧ r1 = r2 ∧ a = b)
set_option maxRecDepth 100000 in
set_option maxHeartbeats 4000000 in
theorem sameD_any (va vb : Value) (la lb : List NodeM) (m1 r1 m2 r2 : Int) (w : World) (ha : RdM w.heap.size va la w) (hb : RdM w.heap.size vb lb w) (hal : la.length ≤ 10000) (hna : ∀ n ∈ pl la, n.names.length ≤ 10000) (hnb : ∀ n ∈ pl lb, n.names.length ≤ 10000) :
    Calls Tryz.prog 21 #[.agg #[va, .int .i64 m1, .int .i64 r1], .agg #[vb, .int .i64 m2, .int .i64 r2]] w fun e w' => e = .returned (.bool (sameD (pl la) (pl lb) m1 r1 m2 r2)) ∧ Below w.heap.size w w' := by
  obtain ⟨aoa, capa, rfl, _, _⟩ := rdm_form ha
  obtain ⟨aob, capb, rfl, _, _⟩ := rdm_form hb
  have HA := Lib.hid ha
  have HB := Lib.hid hb
  have HNA := Lib.hid hna
  have HNB := Lib.hid hnb
  clear ha hb hna hnb
  have hb0 : Below w.heap.size w ((w.alloc (.cells #[.slice aoa la.length capa, .int .i64 m1, .int .i64 r1] 32)).alloc (.cells #[.slice aob lb.length capb, .int .i64 m2, .int .i64 r2] 32)) := ((Below.refl _ w).alloc (Nat.le_refl _) _).alloc (by simp) _
  by_cases h1 : m1 = m2
  case neg =>
    have hI : (m1 != m2) = true := by simpa using h1
    have HF : Hid (sameD (pl la) (pl lb) m1 r1 m2 r2 = false) := Lib.hid (by unfold sameD; simp [h1])
    clear h1
    go_enter Tryz.func21, Tryz.ntmps21
    go_wp2_with fail
    go_ret
    exact ⟨ret_bool HF.out.symm, hb0⟩
  have g1 : (m1 != m2) = false := by simpa using h1
  by_cases h2 : r1 = r2
  case neg =>
    have hI : (r1 != r2) = true := by simpa using h2
    have HF : Hid (sameD (pl la) (pl lb) m1 r1 m2 r2 = false) := Lib.hid (by unfold sameD; simp [h2])
    clear h1 h2
    go_enter Tryz.func21, Tryz.ntmps21
    go_wp2_with fail
    go_ret
    exact ⟨ret_bool HF.out.symm, hb0⟩
  have g2 : (r1 != r2) = false := by simpa using h2
  by_cases h3 : la.length = lb.length
  case neg =>
    have hI : ((la.length : Int) != (lb.length : Int)) = true := by rw [bne_iff_ne]; omega
    have HF : Hid (sameD (pl la) (pl lb) m1 r1 m2 r2 = false) := Lib.hid (by unfold sameD; rw [decide_eq_false_iff_not]; rintro ⟨_, _, e⟩; exact h3 (by rw [← pl_len, e, pl_len]))
    clear h1 h2 h3
    go_enter Tryz.func21, Tryz.ntmps21
    go_wp2_with fail
    go_ret
    exact ⟨ret_bool HF.out.symm, hb0⟩
  have g3 : ((la.length : Int) != (lb.length : Int)) = false := by rw [h3]; simp
  have HE : Hid (sameD (pl la) (pl lb) m1 r1 m2 r2 = decide (pl la = pl lb)) := Lib.hid (by unfold sameD; simp [h1, h2])
  have hle1 : la.length ≤ lb.length := by omega
  have hle2 : lb.length ≤ la.length := by omega
  clear h1 h2 h3
  clear hb0
  go_enter Tryz.func21, Tryz.ntmps21
  go_wp2_with fail
  refine fresh2 (P := fun W => Code.wp _ _ _ _ W) ?_
  intro W0 hb0 hP hR hs0
  go_loopw [5] (fun i wr => ∃ k : Nat, i = .int .i64 k ∧ k ≤ la.length ∧ Hid (sameTo (pl la) (pl lb) k) ∧ Below W0.heap.size W0 wr) (fun i _ => la.length - (intOf i).toNat)
  case atStart => exact ⟨0, rfl, Nat.zero_le _, Lib.hid rfl, Below.refl _ _⟩
  case round =>
    obtain ⟨k, rfl, hk, hS, hBr⟩ := hrel
    have hBw : Below w.heap.size w wr := hb0.trans (hBr.mono (by omega))
    have p0 := (cells3 ((hBr.block _ (by omega)).trans hP)).1
    have q0 := (cells3 ((hBr.block _ (by omega)).trans hR)).1
    by_cases hlt : k < la.length
    · have hltb : k < lb.length := by omega
      obtain ⟨b, off, n, aon, capn, rfl, hb, hn, -, hrn, c0, c1, c2, c3, c4, c5, c6, c7⟩ := node_at (HA.out.below hBw) k hlt
      obtain ⟨b', off', n', aon', capn', rfl, hb', hn', -, hrn', d0, d1, d2, d3, d4, d5, d6, d7⟩ := node_at (HB.out.below hBw) k hltb
      have hx1 := HNA.out n (by rw [← hn]; exact List.getElem_mem _)
      have hx2 := HNB.out n' (by rw [← hn']; exact List.getElem_mem _)
      have HR1 : Hid (RdNm wr.heap.size (n, .slice aon n.names.length capn) wr) := Lib.hid (Rd.mono hrn hBw.size)
      have HR2 : Hid (RdNm wr.heap.size (n', .slice aon' n'.names.length capn') wr) := Lib.hid (Rd.mono hrn' hBw.size)
      have HL : ∀ W, Below wr.heap.size wr W → Calls Tryz.prog 47 #[nval n (.slice aon n.names.length capn), nval n' (.slice aon' n'.names.length capn')] W fun e w' => e = .returned (.bool (decide (n = n'))) ∧ Below W.heap.size W w' :=
        fun W hb => alike_any n n' _ _ W (rdnm_keep HR1.out hb) (rdnm_keep HR2.out hb) hx1 hx2
      have k0 : (0 : Int) ≤ (k : Int) := by omega
      have k1 : (k : Int) < (la.length : Int) := by omega
      have k2 : (k : Int) < (lb.length : Int) := by omega
      have HN := Lib.hid (show n = (pl la)[k]'(by rw [pl_len]; exact hlt) from hn.symm)
      have HN' := Lib.hid (show n' = (pl lb)[k]'(by rw [pl_len]; exact hltb) from hn'.symm)
      clear hrn hrn' hn hn' hP hR
      by_cases hq : n = n'
      · have hd : decide (n = n') = true := by simpa using hq
        have hs' := Lib.hid (sameTo_succ hS.out (by rw [pl_len]; exact hlt) (by rw [pl_len]; exact hltb) (HN.out.symm.trans (hq.trans HN'.out)))
        rw [hd] at HL
        clear hq hd
        go_wp2_with fail
        have cc0 := cell_regrown c0
        have cc1 := cell_regrown c1
        have cc2 := cell_regrown c2
        have cc3 := cell_regrown c3
        have cc4 := cell_regrown c4
        have cc5 := cell_regrown c5
        have cc6 := cell_regrown c6
        have cc7 := cell_regrown c7
        have dd0 := cell_regrown d0
        have dd1 := cell_regrown d1
        have dd2 := cell_regrown d2
        have dd3 := cell_regrown d3
        have dd4 := cell_regrown d4
        have dd5 := cell_regrown d5
        have dd6 := cell_regrown d6
        have dd7 := cell_regrown d7
        have pp0 := cell_regrown p0
        have qq0 := cell_regrown q0
        refine wp_region_quiet_below (by kernel_rfl) (by kernel_rfl) ?_
        repeat (go_big_quiet_step ((go_at_call 47; exact Calls.regrown_of (HL _ (below_regrown wr _ _)))))
        refine wpQuiet_nil ?_
        clear cc0 cc1 cc2 cc3 cc4 cc5 cc6 cc7 dd0 dd1 dd2 dd3 dd4 dd5 dd6 dd7 pp0 qq0
        intro _ hw'
        obtain ⟨⟨dq, osq⟩, hw''⟩ := hw'
        have hbg : Below wr.heap.size wr _ := below_regrown wr dq osq
        rw [← hw''] at hbg
        clear hw''
        rename_i W2
        have hB2 := ret_tr hBr hbg
        go_wp2_with fail
        go_roundw
        case rel => exact ⟨k + 1, by go_num, hlt, hs', hB2⟩
        case measure => simp [intOf]; omega
      · have hd : decide (n = n') = false := by simpa using hq
        have HF : Hid (decide (pl la = pl lb) = false) := Lib.hid (by
          rw [decide_eq_false_iff_not]; intro e; apply hq; rw [HN.out, HN'.out]; simp only [e])
        rw [hd] at HL
        clear hq hd
        go_wp2_with fail
        have cc0 := cell_regrown c0
        have cc1 := cell_regrown c1
        have cc2 := cell_regrown c2
        have cc3 := cell_regrown c3
        have cc4 := cell_regrown c4
        have cc5 := cell_regrown c5
        have cc6 := cell_regrown c6
        have cc7 := cell_regrown c7
        have dd0 := cell_regrown d0
        have dd1 := cell_regrown d1
        have dd2 := cell_regrown d2
        have dd3 := cell_regrown d3
        have dd4 := cell_regrown d4
        have dd5 := cell_regrown d5
        have dd6 := cell_regrown d6
        have dd7 := cell_regrown d7
        have pp0 := cell_regrown p0
        have qq0 := cell_regrown q0
        refine wp_region_quiet_below (by kernel_rfl) (by kernel_rfl) ?_
        repeat (go_big_quiet_step ((go_at_call 47; exact Calls.regrown_of (HL _ (below_regrown wr _ _)))))
        refine wpQuiet_nil ?_
        clear cc0 cc1 cc2 cc3 cc4 cc5 cc6 cc7 dd0 dd1 dd2 dd3 dd4 dd5 dd6 dd7 pp0 qq0
        intro _ hw'
        obtain ⟨⟨dq, osq⟩, hw''⟩ := hw'
        have hbg : Below wr.heap.size wr _ := below_regrown wr dq osq
        rw [← hw''] at hbg
        clear hw''
        rename_i W2
        have hB2 := ret_tr hBr hbg
        go_wp2_with fail
        go_ret
        exact ⟨ret_bool (by rw [HE.out, HF.out]), hb0.trans (hB2.mono (by omega))⟩
    · have hke : k = la.length := by omega
      have HF : Hid (decide (pl la = pl lb) = true) := Lib.hid (by
        rw [decide_eq_true_iff]
        have := hS.out
        unfold sameTo at this
        rwa [List.take_of_length_le (by rw [pl_len]; omega), List.take_of_length_le (by rw [pl_len]; omega)] at this)
      have hI2 : decide (k < la.length) = false := by simp; omega
      clear hke hlt
      go_wp2_with fail
      go_ret
      exact ⟨ret_bool (by rw [HE.out, HF.out]), hBw⟩
end Go.Proofs.YtpmhmippoefcfaaGreatDoor
namespace Go.Proofs.YtpmhmippoefcfaaGreatDoor
open Go.RowKit Go.Shelf
attribute [local go_sem ↓] Go.wp_at_zero Go.wp_at_succ
end Go.Proofs.YtpmhmippoefcfaaGreatDoor
namespace Go.Proofs.YtpmhmippoefcfaaGreatDoor
open Go.RowKit Go.Shelf
attribute [local go_sem ↓] Go.wp_at_zero Go.wp_at_succ
end Go.Proofs.YtpmhmippoefcfaaGreatDoor
namespace Go.Proofs.YtpmhmippoefcfaaGreatDoor
open Go.RowKit Go.Shelf
theorem Posted.go {p : Prop} (h : p) : Posted p := h
section
variable {P : Program} {fn : Func} {Q : Ending → World → Prop} {x : Exit} {a : Act} {w : World} {A B : Obj}
theorem calls_fresh2 {f : FuncId} {args : Array Value} (h : ∀ W, Below w.heap.size w W → W.heap[w.heap.size]? = some A → W.heap[w.heap.size + 1]? = some B → W.heap.size = w.heap.size + 2 → Calls P f args W Q) : Calls P f args ((w.alloc A).alloc B) Q := fresh2 (P := fun W => Calls P f args W Q) h
variable {b : Nat} {u0 u1 u2 u3 u4 u5 u6 u7 r0 r1 r2 r3 r4 r5 r6 r7 : Value} {t : TypeId}
end
end Go.Proofs.YtpmhmippoefcfaaGreatDoor
namespace Go.Proofs.YtpmhmippoefcfaaGreatDoor
open Go.RowKit Go.Shelf
attribute [local go_sem ↓] Go.wp_at_zero Go.wp_at_succ
set_option maxRecDepth 100000 in
set_option maxHeartbeats 4000000 in
theorem rdir_any (v : Value) (ms : List NodeM) (most room i : Int) (w : World) (hv : RdM w.heap.size v ms w) (hl : ms.length ≤ 10000) :
    Calls Tryz.prog 77 #[.agg #[v, .int .i64 most, .int .i64 room], .int .i64 i] w fun e w' => NumIs (dirE (pl ms) i) e w w' := by
  obtain ⟨aod, capd, rfl, _, _⟩ := rdm_form hv
  have hb0 : Below w.heap.size w (w.alloc (.cells #[.slice aod ms.length capd, .int .i64 most, .int .i64 room] 32)) := (Below.refl _ w).alloc (Nat.le_refl _) _
  have HG := Lib.hid (rget_any _ ms most room i _ (rdm_keep hv hb0) hl)
  have HB0 := Lib.hid hb0
  clear hv hb0
  go_enter Tryz.func77, Tryz.ntmps77
  go_wp2_with fail
  refine HG.out.mono ?_
  rintro e w1 ⟨v1, rfl, hr1, hb1⟩
  rw [getL_node] at hr1 ⊢
  have HB1 := Lib.hid (ret_tr HB0.out hb1)
  obtain ⟨ao1, cp1, e1, _, _⟩ := Rd.form hr1
  have e1' : v1 = .slice ao1 (nodeL (pl ms) i).names.length cp1 := e1
  subst e1'
  clear hr1 hb1 e1
  obtain ⟨n, hn⟩ : ∃ n, n = nodeL (pl ms) i := ⟨_, rfl⟩
  rw [← hn]
  have HN := Lib.hid hn
  clear hn
  cases hg : gotB (pl ms) i with
  | false =>
    have HE : Hid (dirE (pl ms) i = 2) := Lib.hid (by unfold dirE; rw [hg]; rfl)
    clear hg
    go_wp2_with fail
    refine post_fresh1 ?_
    intro W5 hb5 hn5 hs5
    go_ret
    exact ⟨ret_int HE.out.symm, ret_tr HB1.out hb5⟩
  | true =>
    by_cases hk : n.kind = 2
    · have hI : (n.kind != 2) = false := by simpa using hk
      have HE : Hid (dirE (pl ms) i = 0) := Lib.hid (by unfold dirE; rw [if_pos hg, ← HN.out, if_pos hk])
      clear hg hk
      go_wp2_with fail
      refine post_fresh1 ?_
      intro W5 hb5 hn5 hs5
      go_ret
      exact ⟨ret_int HE.out.symm, ret_tr HB1.out hb5⟩
    · have hI : (n.kind != 2) = true := by simpa using hk
      have HE : Hid (dirE (pl ms) i = 4) := Lib.hid (by unfold dirE; rw [if_pos hg, ← HN.out, if_neg hk])
      clear hg hk
      go_wp2_with fail
      refine post_fresh1 ?_
      intro W5 hb5 hn5 hs5
      go_ret
      exact ⟨ret_int HE.out.symm, ret_tr HB1.out hb5⟩
set_option maxRecDepth 100000 in
set_option maxHeartbeats 4000000 in
theorem rlook_any (v : Value) (ms : List NodeM) (most room i : Int) (p : Str) (w : World) (hv : RdM w.heap.size v ms w) (hd : DskOk ms) :
    Calls Tryz.prog 79 #[.agg #[v, .int .i64 most, .int .i64 room], .int .i64 i, .string (bs p)] w fun e w' => NumIs (lookL (pl ms) i p) e w w' := by
  obtain ⟨aod, capd, rfl, _, _⟩ := rdm_form hv
  have hb0 : Below w.heap.size w (w.alloc (.cells #[.slice aod ms.length capd, .int .i64 most, .int .i64 room] 32)) := (Below.refl _ w).alloc (Nat.le_refl _) _
  have HG := Lib.hid (rget_any _ ms most room i _ (rdm_keep hv hb0) hd.len)
  have HB0 := Lib.hid hb0
  have hnl := hd.names i
  clear hv hb0
  go_enter Tryz.func79, Tryz.ntmps79
  go_wp2_with fail
  refine HG.out.mono ?_
  rintro e w1 ⟨v1, rfl, hr1, hb1⟩
  rw [getL_node] at hr1 ⊢
  have HB1 := Lib.hid (ret_tr HB0.out hb1)
  obtain ⟨ao1, cp1, e1, _, _⟩ := Rd.form hr1
  have e1' : v1 = .slice ao1 (nodeL (pl ms) i).names.length cp1 := e1
  subst e1'
  obtain ⟨n, hn⟩ : ∃ n, n = nodeL (pl ms) i := ⟨_, rfl⟩
  rw [← hn] at hr1 hnl ⊢
  have HN := Lib.hid hn
  have HR1 : Hid (Rd w1.heap.size 2 (.slice ao1 n.names.length cp1) n.names.length (ents n.names) w1) := Lib.hid hr1
  clear hr1 hb1 e1 hn
  have hlk : lookL (pl ms) i p = lookN i n p := by rw [HN.out]; rfl
  by_cases h1 : p = [46]
  · have hI : (p == [46]) = true := by simpa using h1
    have HE : Hid (lookL (pl ms) i p = i) := Lib.hid (by rw [hlk]; unfold lookN; rw [if_pos h1])
    clear h1 hlk
    go_wp2_with fail
    refine post_fresh1 ?_
    intro W5 hb5 hn5 hs5
    go_ret
    exact ⟨ret_int HE.out.symm, ret_tr HB1.out hb5⟩
  have hI1 : (p == [46]) = false := by simpa using h1
  by_cases h2 : p = [46, 46]
  · have hI : (p == [46, 46]) = true := by simpa using h2
    have HE : Hid (lookL (pl ms) i p = n.up) := Lib.hid (by rw [hlk]; unfold lookN; rw [if_neg h1, if_pos h2])
    clear h1 h2 hlk
    go_wp2_with fail
    refine post_fresh1 ?_
    intro W5 hb5 hn5 hs5
    go_ret
    exact ⟨ret_int HE.out.symm, ret_tr HB1.out hb5⟩
  have hI2 : (p == [46, 46]) = false := by simpa using h2
  have HE : Hid (lookL (pl ms) i p = (findL n.names p).getD (-1)) := Lib.hid (by rw [hlk]; unfold lookN; rw [if_neg h1, if_neg h2])
  clear h1 h2 hlk
  go_wp2_with fail
  refine calls_fresh1 ?_
  intro W5 hb5 hn5 hs5
  refine (rfind_any _ _ n.names p _ (rd_keep HR1.out hb5) hnl).mono ?_
  rintro e w6 ⟨rfl, rfl⟩
  go_wp2_with fail
  go_ret
  exact ⟨ret_int (by rw [HE.out]; rfl), ret_tr HB1.out hb5⟩
end Go.Proofs.YtpmhmippoefcfaaGreatDoor
namespace Go.Proofs.YtpmhmippoefcfaaGreatDoor
open Go.RowKit Go.Shelf
attribute [local go_sem ↓] Go.wp_at_zero Go.wp_at_succ
/-- Its contract, of whatever reads as these nodes. -/
theorem its_g (l : List NodeL) (a b : Int) (hl : l.length ≤ 10000) (hnl : ∀ n ∈ l, n.names.length ≤ 10000) (v : Value) (W : World) (hg : GivesN l v W) :
    Calls Tryz.prog 13 #[.agg #[v, .int .i64 a, .int .i64 b]] W fun e w' => ∃ v', e = .returned (.agg #[v', .int .i64 a, .int .i64 b]) ∧ GivesN l v' w' ∧ Below W.heap.size W w' := by
  obtain ⟨m, rfl, h⟩ := hg
  exact its_any v m a b W h (by rw [← pl_len]; exact hl) hnl
end Go.Proofs.YtpmhmippoefcfaaGreatDoor
namespace Go.Proofs.YtpmhmippoefcfaaGreatDoor
/-- A name is dropped; the node that it named is left out. -/
theorem drop_name {l : List NodeL} {E : Nat → Prop} (h : RigE l E) {d x : Nat} (hd : (nd l d).kind = 2) {nm : Nm} (hf : findL (nd l d).names nm = some (x : Int)) : RigE (l.set d (dropN (nd l d) nm)) (fun k => E k ∨ k = x) := by
  have hs := Rig.sorted h d
  refine h.names d hd (dropL (nd l d).names nm) _ (fun _ h => .inl h) (sorted_drop hs nm) (fun e he => h.nam d e (List.mem_filter.1 he).1) (fun j hj => ?_) fun h0 h1 h2 => ?_
  · have := cntN_drop hs.2 hf j
    rw [if_neg (by intro e; exact hj (.inr (by omega)))] at this
    exact this
  · have hn := (h.nmd d h0 (fun he => h1 (.inl he)) (by rw [hd]; decide)).2.2 hd
    have := (hn.1 h2).1
    rw [this] at hf
    cases hf
theorem drop_facts {l : List NodeL} {d x : Nat} (hs : SortedP (nd l d).names) (hd : (nd l d).kind = 2) {nm : Nm} (hf : findL (nd l d).names nm = some (x : Int)) :
    (∀ j, nd (l.set d (dropN (nd l d) nm)) j = if j = d then dropN (nd l d) nm else nd l j) ∧ (∀ j : Nat, cnt (l.set d (dropN (nd l d) nm)) j + (if x = j then 1 else 0) = cnt l j) ∧ (∀ j, (nd (l.set d (dropN (nd l d) nm)) j).kind = (nd l j).kind ∧ (nd (l.set d (dropN (nd l d) nm)) j).up = (nd l j).up) := by
  have hlt : d < l.length := nd_kind (by rw [hd]; decide)
  refine ⟨nd_set hlt _, fun j => ?_, nd_map_set hlt (dropN (nd l d) nm) rfl rfl⟩
  have h1 := cnt_set hlt (dropN (nd l d) nm) j
  have h2 : cntN (dropN (nd l d) nm).names j + (if (x : Int) = j then 1 else 0) = cntN (nd l d).names j := cntN_drop hs.2 hf j
  by_cases hx : x = j
  · subst hx; rw [if_pos rfl] at h2 ⊢; omega
  · rw [if_neg (by omega)] at h2; rw [if_neg hx]; omega
theorem set_loc {n : NodeL} (h : LocOk n) {m : NodeL} (hk : m.kind = n.kind) (hm : 0 ≤ m.mode ∧ m.mode ≤ 63) (ho : m.opn = n.opn) (hd : m.data = n.data) (hn : m.names = n.names) : LocOk m := by
  obtain ⟨a, b, c, d⟩ := h
  unfold plainB at a
  simp only [Bool.and_eq_true, decide_eq_true_iff] at a
  refine ⟨?_, by rw [hk, hn]; exact b, by rw [hk, hd]; exact c, by rw [hn]; exact d⟩
  unfold plainB
  simp only [Bool.and_eq_true, decide_eq_true_iff]
  rw [hk, ho]
  exact ⟨⟨⟨a.1.1.1, hm.1⟩, hm.2⟩, a.2⟩
theorem loc_mode {n : NodeL} (h : LocOk n) : 0 ≤ n.mode ∧ n.mode ≤ 63 := by
  have a := h.1
  unfold plainB at a
  simp only [Bool.and_eq_true, decide_eq_true_iff] at a
  exact ⟨a.1.1.2, a.1.2⟩
end Go.Proofs.YtpmhmippoefcfaaGreatDoor
namespace Go.Proofs.YtpmhmippoefcfaaGreatDoor
theorem bytes_set {l : List NodeL} {j : Nat} (h : j < l.length) (m : NodeL) : bytesL (l.set j m) + weightL (nd l j) = bytesL l + weightL m := by
  rw [nd_lt h]
  induction l generalizing j with
  | nil => simp at h
  | cons a l ih =>
    cases j with
    | zero => simp [bytesL]; omega
    | succ j =>
      have := ih (j := j) (by simpa using h)
      simp only [bytesL, List.set_cons_succ, List.map_cons, List.sum_cons, List.getElem_cons_succ] at this ⊢
      omega
/-- What is left of a node that has lost a name. -/
def leftN (n : NodeL) : NodeL := if n.links - 1 ≤ 0 ∧ n.opn ≤ 0 then zeroN else lessN n
theorem leftN_kind (n : NodeL) (h : n.kind ≠ 0) : (leftN n).kind = 0 ↔ (n.links - 1 ≤ 0 ∧ n.opn ≤ 0) := by
  unfold leftN
  split
  · rename_i hc; exact ⟨fun _ => hc, fun _ => rfl⟩
  · rename_i hc; exact ⟨fun h1 => absurd h1 h, fun h1 => absurd h1 hc⟩
/-- A name is lost, and what it named. -/
theorem lost_rig {l : List NodeL} {E : Nat → Prop} (h : RigE l E) {s : SpotL} {d y : Nat} (hd : s.dir = d) (hk : (nd l d).kind = 2) (hi : s.ino = y) (hf : findL (nd l d).names s.name = some (y : Int)) (hy0 : y ≠ 0) (hyk : (nd l y).kind ≠ 0) (hyE : ¬ E y)
    (hyn : (nd l y).kind = 2 → (nd l y).names = []) (hup : ∀ k, E k → (nd l k).kind = 2 → (nd l k).up ≠ y) :
    y ≠ d ∧ lostL l s = (l.set d (dropN (nd l d) s.name)).set y (leftN (nd l y)) ∧ (∀ j, nd (lostL l s) j = if j = d then dropN (nd l d) s.name else if j = y then leftN (nd l y) else nd l j) ∧ (∀ j : Nat, cnt (lostL l s) j + (if y = j then 1 else 0) = cnt l j)
      ∧ (lostL l s).length = l.length ∧ bytesL (lostL l s) ≤ bytesL l ∧ (∀ k, k ≠ y → (nd (lostL l s) k).kind = (nd l k).kind ∧ (nd (lostL l s) k).up = (nd l k).up) ∧ RigE (lostL l s) E := by
  have hs := Rig.sorted h d
  have hlt : d < l.length := nd_kind (by rw [hk]; decide)
  have hlty : y < l.length := nd_kind hyk
  have hyd : y ≠ d := by
    rintro rfl
    rw [hyn hk] at hf
    cases hf
  obtain ⟨f1, f2, f3⟩ := drop_facts hs hk hf
  have hR1 := drop_name h hk hf
  generalize hL : l.set d (dropN (nd l d) s.name) = l1 at *
  have hlen1 : l1.length = l.length := by rw [← hL, List.length_set]
  have hy1 : nd l1 y = nd l y := by rw [f1, if_neg hyd]
  have hlty1 : y < l1.length := by omega
  have hdrop : droppedL l s = l1 := by unfold droppedL; rw [hd, setL_nat hlt, nodeL_nd (by rw [hk]; decide), hL]
  have hN := h.nmd y hy0 hyE hyk
  have hcy : 0 < cnt l y := by
    have h1 := cntN_drop hs.2 hf y
    rw [if_pos rfl] at h1
    have := cnt_ge (l := l) d y
    omega
  have hc1 := f2 y
  rw [if_pos rfl] at hc1
  have hlk : (nd l y).links = cnt l y := hN.1
  have hlost : lostL l s = l1.set y (leftN (nd l y)) := by
    unfold lostL settleL
    rw [hdrop, hi, setL_nat hlty1, nodeL_nd (by rw [hy1]; exact hyk), hy1]
    have hnd2 : nd (l1.set y (lessN (nd l y))) y = lessN (nd l y) := by rw [nd_set hlty1, if_pos rfl]
    have hg : gotB (l1.set y (lessN (nd l y))) (y : Int) = true := (got_nd _ y).2 (by rw [hnd2]; exact hyk)
    rw [hg, nodeL_nd (by rw [hnd2]; exact hyk), hnd2]
    unfold leftN
    split
    · rename_i hc
      obtain ⟨-, -, a, b⟩ := hc
      rw [if_pos ⟨a, b⟩, setL_nat (by rw [List.length_set]; exact hlty1), List.set_set]
    · rename_i hc
      rw [if_neg fun ⟨a, b⟩ => hc ⟨rfl, by omega, a, b⟩]
  have hnd : ∀ j, nd (l1.set y (leftN (nd l y))) j = if j = y then leftN (nd l y) else nd l1 j := nd_set hlty1 _
  have hleft : (leftN (nd l y)).names = (nd l1 y).names := by
    rw [hy1]
    unfold leftN
    split
    · by_cases h2 : (nd l y).kind = 2
      · rw [hyn h2]; rfl
      · rw [(h.loc y hyk).2.1 h2]; rfl
    · rfl
  have hcs : ∀ j : Int, cnt (l1.set y (leftN (nd l y))) j = cnt l1 j := fun j => by
    have := cnt_set hlty1 (leftN (nd l y)) j
    rw [hleft] at this
    omega
  have hloc : (leftN (nd l y)).kind ≠ 0 → LocOk (leftN (nd l y)) := fun hne => by
    have h1 := h.loc y hyk
    unfold leftN at hne ⊢
    split
    · rename_i hc; rw [if_pos hc] at hne; exact absurd rfl hne
    · exact set_loc h1 (m := lessN (nd l y)) rfl (loc_mode h1) rfl rfl rfl
  have hnone : (leftN (nd l y)).kind = 0 → ∀ k, cntN (nd l1 k).names y = 0 := fun hz k => by
    obtain ⟨a, _⟩ := (leftN_kind _ hyk).1 hz
    have := cnt_ge (l := l1) k y
    omega
  have hway : ∀ k : Nat, k ≠ 0 → ¬ (E k ∨ k = y) → (nd l1 k).kind = 2 → Rooted l1 k → Rooted (l1.set y (leftN (nd l y))) k := fun k hk0 hkE hk2 hr => by
    refine hr.mono (fun k => (nd l1 k).kind = 2 → k ≠ y) (fun j hj hj2 => ?_) fun j e _ _ => ?_
    · have hjy := hj hj2
      rw [hnd, if_neg hjy]
      refine ⟨hj2, rfl, fun u hu hu0 hu2 => ?_⟩
      rintro rfl
      have hyd2 : (nd l u).kind = 2 := by rw [← hy1]; exact hu2
      by_cases hj0 : j = 0
      · subst hj0
        have := hR1.root.2.1
        omega
      · by_cases hjE : E j
        · exact hup j hjE (by rw [← (f3 j).1]; exact hj2) (by rw [← (f3 j).2]; exact hu)
        · have hNj := (hR1.nmd j hj0 (fun he => he.elim hjE hjy) (by rw [hj2]; decide)).2.2 hj2
          by_cases hcz : cnt l1 j = 0
          · have := (hNj.1 hcz).2
            omega
          · obtain ⟨_, ⟨v, hv, hv2⟩, _⟩ := hNj.2 hcz
            have : v = u := by omega
            subst this
            rw [hy1, hyn hyd2, cntN_nil] at hv2
            exact absurd hv2 (Nat.lt_irrefl 0)
    · obtain rfl : k = j := by omega
      exact fun he => hkE (.inr he)
  have hR2 := hR1.node (y := y) (.inr rfl) hy0 hlty1 (leftN (nd l y)) hleft hloc (fun hz => by
    unfold leftN at hz ⊢
    split
    · rfl
    · rename_i hc; rw [if_neg hc] at hz; exact absurd hz hyk) hnone hway
  have hR3 : RigE (l1.set y (leftN (nd l y))) E := by
    refine hR2.less fun k hkE => ?_
    rcases hkE with hkE | rfl
    · exact .inl hkE
    · refine .inr fun _ hkk => ?_
      have hck := hcs k
      rw [hnd, if_pos rfl] at hkk ⊢
      have hns : ¬ ((nd l k).links - 1 ≤ 0 ∧ (nd l k).opn ≤ 0) := fun hc => hkk ((leftN_kind _ hyk).2 hc)
      have hle : leftN (nd l k) = lessN (nd l k) := by unfold leftN; rw [if_neg hns]
      rw [hle] at hck ⊢
      have e1 : (lessN (nd l k)).links = (nd l k).links - 1 := rfl
      refine ⟨by rw [hck, e1]; omega, fun hz => ?_, fun h2 => ?_⟩
      · show 1 ≤ (nd l k).opn
        omega
      · have h2' : (nd l k).kind = 2 := h2
        have h1 := ((hN.2.2 h2').2 (by omega)).1
        refine ⟨fun _ => ⟨hyn h2', ?_⟩, fun hz => absurd (by omega) hz⟩
        show (if (nd l k).kind = 2 then 0 else (nd l k).up) = 0
        rw [if_pos h2']
  rw [hlost]
  refine ⟨hyd, rfl, fun j => ?_, fun j => ?_, by rw [List.length_set, hlen1], ?_, fun k hky => ?_, hR3⟩
  · rw [hnd]
    by_cases hjy : j = y
    · subst hjy
      rw [if_pos rfl, if_neg hyd, if_pos rfl]
    · rw [if_neg hjy, f1, if_neg hjy]
  · rw [hcs]; exact f2 j
  · have b1 := bytes_set hlt (dropN (nd l d) s.name)
    have b2 := bytes_set hlty1 (leftN (nd l y))
    rw [hL] at b1
    rw [hy1] at b2
    have w1 : weightL (dropN (nd l d) s.name) = weightL (nd l d) := rfl
    have w2 : weightL (leftN (nd l y)) ≤ weightL (nd l y) := by
      unfold leftN
      split
      · exact Nat.zero_le _
      · exact Nat.le_refl _
    omega
  · rw [hnd, if_neg hky]; exact f3 k
end Go.Proofs.YtpmhmippoefcfaaGreatDoor
namespace Go.Proofs.YtpmhmippoefcfaaGreatDoor
theorem find_drop_other (es : List EntL) (a b : Nm) (h : b ≠ a) : findL (dropL es a) b = findL es b := by
  unfold findL dropL
  rw [List.find?_filter]
  congr 1
  refine congrArg (fun p => List.find? p es) (funext fun e => ?_)
  by_cases he : e.1 = b
  · have h1 : (e.1 == a) = false := by rw [he]; simpa using h
    cases h2 : (e.1 == b) <;> simp [h1]
  · have h1 : (e.1 == b) = false := by simpa using he
    simp [h1]
/-- The way up that does not come to x. -/
theorem avoid {l : List NodeL} {x : Nat} (hx : x < l.length) : ∀ (f : Nat) (j : Int), rootR l f j = true → beneathL l f j x = false → Rooted (l.set x zeroN) j := by
  intro f
  induction f with
  | zero => intro j h; cases h
  | succ f ih =>
    intro j h hb
    unfold beneathL at hb
    split at hb
    · cases hb
    · rename_i hne
      split at hb
      · rename_i h0; subst h0; exact .root
      · rename_i h0
        rcases rootR_up h with h1 | ⟨hg, hk, h2⟩
        · exact absurd h1 h0
        · obtain ⟨k, rfl, _, hk0⟩ := got_nat hg
          rw [at_nd] at hk h2
          rw [nodeL_nd hk0] at hb
          have hn : nd (l.set x zeroN) k = nd l k := by rw [nd_set hx, if_neg (by rintro rfl; exact hne rfl)]
          exact .up k (by rw [hn]; exact hk) (by rw [hn]; exact ih _ h2 hb)
/-- What is renamed leaves a disk right. -/
theorem move_rig {l : List NodeL} (h : Rig l) {s t : SpotL} {d1 d2 x : Nat} (m : MoveN l s t d1 d2 x) :
    Rig (moveL l s t) ∧ (moveL l s t).length = l.length ∧ bytesL (moveL l s t) ≤ bytesL l ∧ nd (moveL l s t) x = placeN (nd l x) d2 ∧ findL (nd (moveL l s t) d2).names t.name = some (x : Int) ∧ findL (nd (moveL l s t) d1).names s.name = none ∧ (nd (moveL l s t) d1).kind = 2 ∧ (nd (moveL l s t) d2).kind = 2 := by
  have h0len : 0 < l.length := by have := nd_kind (l := l) (k := d1) (by rw [m.sk]; decide); omega
  have hlt1 : d1 < l.length := nd_kind (by rw [m.sk]; decide)
  have hltx : x < l.length := nd_kind m.xk
  have hxd1 : x ≠ d1 := by
    by_cases hx2 : (nd l x).kind = 2
    · exact (up_holder h m.sf m.x0 (fun h => h) hx2).2.1
    · rintro rfl; exact hx2 m.sk
  have hxd2 : x ≠ d2 := by
    by_cases hx2 : (nd l x).kind = 2
    · rintro rfl
      have := m.bn hx2
      unfold beneathL at this
      rw [if_pos rfl] at this
      cases this
    · rintro rfl; exact hx2 m.tk
  have hs := Rig.sorted h d1
  obtain ⟨f1, f2, f3⟩ := drop_facts hs m.sk m.sf
  have hR1 : RigE (l.set d1 (dropN (nd l d1) s.name)) (fun k => k = x) := (drop_name h m.sk m.sf).less fun k hk => .inl (hk.resolve_left id)
  have hbb1 := bytes_set hlt1 (dropN (nd l d1) s.name)
  have hdrop : droppedL l s = l.set d1 (dropN (nd l d1) s.name) := by unfold droppedL; rw [m.sd, setL_nat hlt1, nodeL_nd (by rw [m.sk]; decide)]
  have hlen1 : (l.set d1 (dropN (nd l d1) s.name)).length = l.length := List.length_set
  generalize hL1 : l.set d1 (dropN (nd l d1) s.name) = l1 at *
  have hw1 : bytesL l1 = bytesL l := by
    have : weightL (dropN (nd l d1) s.name) = weightL (nd l d1) := rfl
    omega
  have hx1 : nd l1 x = nd l x := by rw [f1, if_neg hxd1]
  have hsn : d1 = d2 → t.name ≠ s.name := by
    rintro rfl e
    have hsf := m.sf
    by_cases hn : t.ino < 0
    · have := m.tn hn
      rw [e, hsf] at this
      cases this
    · obtain ⟨y, hy⟩ := Int.eq_ofNat_of_zero_le (show 0 ≤ t.ino by omega)
      obtain ⟨a, _, _, b, _⟩ := m.ty y hy
      rw [e, hsf] at a
      injection a with a
      omega
  have hd2n : findL (nd l1 d2).names t.name = findL (nd l d2).names t.name := by
    rw [f1]
    split
    · rename_i e
      rw [e]
      exact find_drop_other _ _ _ (hsn e.symm)
    · rfl
  have hk21 : (nd l1 d2).kind = 2 := (f3 d2).1.trans m.tk
  -- behind the loss of what the new name named
  have hmid : ∃ l2 : List NodeL, movedL l s t = l2 ∧ RigE l2 (fun k => k = x) ∧ l2.length = l.length ∧ bytesL l2 ≤ bytesL l ∧ findL (nd l2 d2).names t.name = none ∧ findL (nd l2 d1).names s.name = none ∧ (∀ k : Nat, t.ino ≠ k → (nd l2 k).kind = (nd l k).kind ∧ (nd l2 k).up = (nd l k).up) ∧ nd l2 x = nd l x ∧ cnt l2 x + 1 = cnt l x ∧ (d2 ≠ 0 → cnt l2 d2 = cnt l d2) ∧ (nd l2 d2).kind = 2 ∧ (nd l2 d1).kind = 2 := by
    have hc1x := f2 x
    rw [if_pos rfl] at hc1x
    by_cases hn : t.ino < 0
    · refine ⟨l1, by unfold movedL; rw [if_neg (by omega), hdrop], hR1, hlen1, by omega, hd2n.trans (m.tn hn), ?_, fun k _ => f3 k, hx1, hc1x, fun _ => ?_, hk21, (f3 d1).1.trans m.sk⟩
      · rw [f1, if_pos rfl]; exact find_drop _ _
      · have := f2 d2
        rw [if_neg hxd2] at this
        exact this
    · obtain ⟨y, hy⟩ := Int.eq_ofNat_of_zero_le (show 0 ≤ t.ino by omega)
      obtain ⟨a1, a2, a3, a4, a5⟩ := m.ty y hy
      have hyd1 : y ≠ d1 := by
        rintro rfl
        split at a5
        · have hsf := m.sf
          rw [a5.2] at hsf
          cases hsf
        · exact a5 m.sk
      have hy1 : nd l1 y = nd l y := by rw [f1, if_neg hyd1]
      obtain ⟨b1, b2, b3, b4, b5, b6, b7, b8⟩ := lost_rig (s := t) hR1 m.td hk21 hy (hd2n.trans a1) a2 (by rw [hy1]; exact a3) a4 (fun h2 => by
        rw [hy1] at h2 ⊢
        split at a5
        · exact a5.2
        · exact absurd h2 a5) fun k hk hk2 => by
          subst hk
          rw [hx1] at hk2 ⊢
          have := (up_holder h m.sf m.x0 (fun h => h) hk2).1
          rw [this]
          omega
      refine ⟨lostL l1 t, by unfold movedL; rw [if_pos (by omega), hdrop], b8, b5.trans hlen1, by omega, ?_, ?_, fun k hk => ?_, ?_, ?_, fun _ => ?_, ?_, ?_⟩
      · rw [b3, if_pos rfl]; exact find_drop _ _
      · rw [b3]
        split
        · rename_i e
          show findL (dropL (nd l1 d2).names t.name) s.name = none
          rw [find_drop_other _ _ _ (Ne.symm (hsn e)), f1, if_pos e.symm]
          exact find_drop _ _
        · rw [if_neg (Ne.symm hyd1), f1, if_pos rfl]; exact find_drop _ _
      · have hky : k ≠ y := by omega
        obtain ⟨c1, c2⟩ := b7 k hky
        exact ⟨c1.trans (f3 k).1, c2.trans (f3 k).2⟩
      · rw [b3, if_neg hxd2, if_neg (Ne.symm a4), hx1]
      · have := b4 x
        rw [if_neg a4] at this
        omega
      · have c1 := b4 d2
        have c2 := f2 d2
        rw [if_neg b1] at c1
        rw [if_neg hxd2] at c2
        omega
      · exact (b7 d2 (Ne.symm b1)).1.trans hk21
      · exact (b7 d1 (Ne.symm hyd1)).1.trans ((f3 d1).1.trans m.sk)
  obtain ⟨l2, e2, g1, g2, g3, g4, g5, g6, g7, g8, g9, g10, g11⟩ := hmid
  have hlk : d2 ≠ 0 → cnt l d2 ≠ 0 := fun hd0 => by
    have := (h.nmd d2 hd0 (fun h => h) (by rw [m.tk]; decide)).1
    have := m.lk
    omega
  have hlt22 : d2 < l2.length := nd_kind (by rw [g10]; decide)
  have hR3 := put_name g1 g10 (x := x) m.tl g4 rfl m.x0 (by rw [g7]; exact m.xk) fun hd0 _ => by rw [g9 hd0]; exact hlk hd0
  obtain ⟨p1, p2, p3, p4⟩ := put_facts (x := x) (Rig.sorted g1 d2) g10 g4
  have hbb3 := bytes_set hlt22 (putN (nd l2 d2) t.name x)
  have hlen3 : (l2.set d2 (putN (nd l2 d2) t.name x)).length = l.length := List.length_set.trans g2
  have hname : namedL (movedL l s t) t s.ino = l2.set d2 (putN (nd l2 d2) t.name x) := by
    unfold namedL
    rw [e2, m.td, setL_nat hlt22, nodeL_nd (by rw [g10]; decide), m.si]
  generalize hL3 : l2.set d2 (putN (nd l2 d2) t.name x) = l3 at *
  have hx3 : nd l3 x = nd l x := by rw [p1, if_neg hxd2, g7]
  have hltx3 : x < l3.length := by omega
  have hmove : moveL l s t = l3.set x (placeN (nd l x) d2) := by
    unfold moveL
    rw [hname, m.si, setL_nat hltx3, nodeL_nd (by rw [hx3]; exact m.xk), hx3, m.td]
  rw [hmove]
  have hnd := nd_set hltx3 (placeN (nd l x) d2)
  have hkin : ∀ k : Nat, t.ino ≠ k → k ≠ x → (nd (l3.set x (placeN (nd l x) d2)) k).kind = (nd l k).kind ∧ (nd (l3.set x (placeN (nd l x) d2)) k).up = (nd l k).up := fun k hk hkx => by
    rw [hnd, if_neg hkx]
    exact ⟨(p3 k).1.trans (g6 k hk).1, (p3 k).2.trans (g6 k hk).2⟩
  have hrd : Rooted l d2 := by
    by_cases hd0 : d2 = 0
    · subst hd0; exact .root
    · exact (((h.nmd d2 hd0 (fun h => h) (by rw [m.tk]; decide)).2.2 m.tk).2 (hlk hd0)).2.2
  -- the way up from the new directory
  have hrd4 : (nd l x).kind = 2 → Rooted (l3.set x (placeN (nd l x) d2)) d2 := fun hx2 => by
    have hav := avoid hltx _ _ (Rooted_rootR h0len hrd) (m.bn hx2)
    have hndz := nd_set hltx zeroN
    have hP : ∀ y : Nat, t.ino = y → (nd l y).kind = 2 ∧ (nd l y).names = [] := fun y hy => by
      have := (m.ty y hy).2.2.2.2
      rwa [if_pos hx2] at this
    refine hav.mono (fun k => t.ino ≠ k) (fun k hk hk2 => ?_) fun k e _ hk => ?_
    · have hkx : k ≠ x := by rintro rfl; rw [hndz, if_pos rfl] at hk2; cases hk2
      rw [hndz, if_neg hkx] at hk2 ⊢
      obtain ⟨c1, c2⟩ := hkin k hk hkx
      refine ⟨c1.trans hk2, c2, fun u hu hu0 hty => ?_⟩
      have hun := (hP u hty).2
      by_cases hk0 : k = 0
      · subst hk0
        have := h.root.2.1
        omega
      · have hN := (h.nmd k hk0 (fun h => h) (by rw [hk2]; decide)).2.2 hk2
        by_cases hcz : cnt l k = 0
        · have := (hN.1 hcz).2
          omega
        · obtain ⟨_, ⟨v, hv, hv2⟩, _⟩ := hN.2 hcz
          have : v = u := by omega
          subst this
          rw [hun, cntN_nil] at hv2
          exact absurd hv2 (Nat.lt_irrefl 0)
    · have hkd : k = d2 := by omega
      subst hkd
      obtain ⟨a1, _, _, _, _⟩ := m.ty k hk
      rw [(hP k hk).2] at a1
      cases a1
  have hway : ∀ j : Int, Rooted l3 j → Rooted (l3.set x (placeN (nd l x) d2)) j := fun j hj => by
    induction hj with
    | root => exact .root
    | up k hk _ ih =>
      by_cases hkx : k = x
      · subst hkx
        have hx2 : (nd l k).kind = 2 := by rw [← hx3]; exact hk
        have hn : nd (l3.set k (placeN (nd l k) d2)) k = placeN (nd l k) d2 := by rw [hnd, if_pos rfl]
        refine .up k (by rw [hn]; exact hx2) ?_
        rw [hn]
        show Rooted _ (if (nd l k).kind = 2 then (d2 : Int) else (nd l k).up)
        rw [if_pos hx2]
        exact hrd4 hx2
      · have hn : nd (l3.set x (placeN (nd l x) d2)) k = nd l3 k := by rw [hnd, if_neg hkx]
        exact .up k (by rw [hn]; exact hk) (by rw [hn]; exact ih)
  have hlx := h.loc x m.xk
  have hR4 := hR3.node (y := x) rfl m.x0 hltx3 (placeN (nd l x) d2) (by rw [hx3]; rfl) (fun _ => set_loc hlx rfl (loc_mode hlx) rfl rfl rfl) (fun hz => absurd hz m.xk) (fun hz => absurd hz m.xk) fun k _ _ _ hr => hway k hr
  have hcs : ∀ j : Int, cnt (l3.set x (placeN (nd l x) d2)) j = cnt l3 j := fun j => by
    have := cnt_set hltx3 (placeN (nd l x) d2) j
    rw [hx3, show (placeN (nd l x) d2).names = (nd l x).names from rfl] at this
    omega
  have hN := h.nmd x m.x0 (fun h => h) m.xk
  have hc3 := p2 x
  rw [if_pos rfl] at hc3
  have hcx : cnt (l3.set x (placeN (nd l x) d2)) x = cnt l x := by rw [hcs]; omega
  have hnx : nd (l3.set x (placeN (nd l x) d2)) x = placeN (nd l x) d2 := by rw [hnd, if_pos rfl]
  have hn2 : nd (l3.set x (placeN (nd l x) d2)) d2 = putN (nd l2 d2) t.name x := by rw [hnd, if_neg (Ne.symm hxd2), p1, if_pos rfl]
  refine ⟨hR4.less fun k hk => .inr fun _ _ => ?_, by rw [List.length_set, hlen3], ?_, hnx, ?_, ?_, ?_, ?_⟩
  · subst hk
    rw [hnx]
    refine ⟨by rw [hcx]; exact hN.1, fun hz => by rw [hcx] at hz; exact hN.2.1 hz, fun hx2 => ?_⟩
    have hx2' : (nd l k).kind = 2 := hx2
    have hu := up_holder h m.sf m.x0 (fun h => h) hx2'
    refine ⟨fun hz => (by rw [hcx, hu.2.2] at hz; cases hz), fun _ => ⟨hcx.trans hu.2.2, ⟨d2, ?_, by rw [hn2]; rw [p1, if_pos rfl] at p4; exact p4⟩, ?_⟩⟩
    · show (if (nd l k).kind = 2 then (d2 : Int) else (nd l k).up) = d2
      rw [if_pos hx2']
    · refine .up k (by rw [hnx]; exact hx2) ?_
      rw [hnx]
      show Rooted _ (if (nd l k).kind = 2 then (d2 : Int) else (nd l k).up)
      rw [if_pos hx2']
      exact hrd4 hx2'
  · have b4 := bytes_set hltx3 (placeN (nd l x) d2)
    rw [hx3] at b4
    have w1 : weightL (placeN (nd l x) d2) = weightL (nd l x) := rfl
    have w2 : weightL (putN (nd l2 d2) t.name x) = weightL (nd l2 d2) := rfl
    omega
  · rw [hn2]; exact find_put _ _ _
  · rw [hnd, if_neg (Ne.symm hxd1), p1]
    split
    · rename_i e
      show findL (putL (nd l2 d2).names (t.name, (x : Int))) s.name = none
      rw [find_put_other (Rig.sorted g1 d2).2 _ _ _ (Ne.symm (hsn e)), ← e]
      exact g5
    · exact g5
  · rw [hnd, if_neg (Ne.symm hxd1), (p3 d1).1]; exact g11
  · rw [hn2]; exact g10
end Go.Proofs.YtpmhmippoefcfaaGreatDoor
namespace Go.Proofs.YtpmhmippoefcfaaGreatDoor
theorem right_back {l l' : List NodeL} {most room : Int} (h : rightR l most room = true) (hr : Rig l') (hl : l'.length = l.length) (hb : bytesL l' ≤ bytesL l) : rightR l' most room = true := by
  obtain ⟨_, h1, h2, h3⟩ := (right_iff l most room).1 h
  exact (right_iff l' most room).2 ⟨hr, by omega, by omega, by omega⟩
section
variable {l : List NodeL} {most room : Int} (h : rightR l most room = true) (who fr : Int) (path : Str)
include h
omit h in
theorem there_zero {R : ResL} (h : thereE R = 0) : R.2 = 0 ∧ 0 ≤ R.1.ino := by
  unfold thereE at h
  split at h
  · rename_i hc; exact absurd h hc
  · rename_i hc
    split at h
    · cases h
    · exact ⟨Decidable.not_not.1 hc, by omega⟩
theorem right_rename (who2 fr2 : Int) (old : Str) : rightR (renameL l who fr who2 fr2 old path).1 most room = true := by
  unfold renameL
  split
  · exact h
  · rename_i ht
    obtain ⟨hw, hi⟩ := there_zero (Decidable.not_not.1 ht)
    split
    · exact h
    · rename_i hw2
      split
      · exact h
      · split
        · exact h
        · rename_i hE
          obtain ⟨hR, _⟩ := Rig.of (right_RP h)
          obtain ⟨d1, d2, x, m⟩ := move_of (right_RP h) (walk_spot (right_RP h) hw) (walk_spot (right_RP h) (Decidable.not_not.1 hw2)) hi (Decidable.not_not.1 hE)
          obtain ⟨a, b, c, _⟩ := move_rig hR m
          exact right_back h a b c
end
end Go.Proofs.YtpmhmippoefcfaaGreatDoor
