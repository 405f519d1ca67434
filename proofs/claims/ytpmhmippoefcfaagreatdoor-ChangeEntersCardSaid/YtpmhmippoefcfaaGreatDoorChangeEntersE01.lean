/-
  Small laws for walks: a region that draws its order, by an invariant over what has come up; such a region in a round of a loop over an iterator. Plain facts on paths as lists of bytes: the spans of their parts, and the parts themselves.
  route: partEnd, spans and its iterator.
  route: Split.
  route: Ups.
  route: Check.
  route: Base, Dir and what they share.
  route: Base, Dir, Join.
  Plain facts on paths, byte by byte.
  The reference's Split.
  The reference's Texts.
  The reference's Check and Base.
  Plain facts on the last part of a path.
  The reference's Ups, bare, Dir and Join.
  The reference's Dir and Join.
  The reference's Dir, whole, and Join.
  Plain laws on the parts of paths.
  The walk of RouteJoins. Bits of numbers, and modes as texts: plain facts.
  mode: digit, May, Mask; the document's May and Mask. Names of a directory, plainly: which names may be; what is found, put and dropped.
  Plain facts on stencils: how many blanks a text ends with, letters, signs; what is made; what fits.
  strings.IndexRune, IndexAny, ContainsAny at two plain bytes, in whatever text.
  strings.ContainsAny at the two bytes that no name has; which names may be.
  Which names may be: the program's and the document's.
  Lists of entries in memory; whether they are sorted: the program's and the document's.
  The document's Sorted, Find, Drop, Same, Names; the statements' its; the program's Names.
  The document's Sorted and Same of entries.
  The document's Find, Drop, Put; both Names.
  The document's Put; both Names.
  sort.Search, laid; the closure; where a name begins and ends.
  slices.Grow, laid; slices.Concat; what stands between two places, replaced.
  slices.Concat; what stands between two places, replaced.
  The program's replace, Find, Drop, Put. The program's within, free, stored, has, Used, Bytes; the document's weight, Used, Bytes; what is too much to look at. The document's Same; both New.
  Both New.
  slices.Clone of entries and of nodes; the program's own, Set. New blocks, and blocks that are written all over, by name: each law for one kind of goal, so that nothing but the world is sought. The program's Node; the document's dir, look. What the statements on ways have in common: whether a disk is right; spots are compared; the example. What is done to a disk, plainly; what is right, by what names what. Names that come and go, plainly: the document's words on lists of nodes.
-/
import Derived.RangeFuncNested
import Derived.RangeFuncBound
import Derived.RangeFuncCalls
import Derived.RangeFuncLeaves
import Derived.RangeFuncBox
import Derived.Shelf.Abstract
import Derived.Shelf.RegionOpen
import Derived.WalkKit
import Derived.OwnWalkIn
import Derived.TacticsInMore
import Derived.LoopNIn
import Derived.LoopIn
import Derived.Lib.Hide
import Derived.Outline
import Derived.Deep.QuietTactic
import Derived.Deep.AppendLies
import Derived.BigQuiet
import Derived.Lib.Strings
import Derived.WalkSmall
import Derived.Shelf.Small.Strs
import Derived.Shelf.Strings.Search1
import Derived.Shelf.Strings.Prefix
import Derived.Laws.AppendOwn
import Derived.Laws.OwnMore
import Derived.Laws.AppendOwnNone
import Derived.WideShapes
import Derived.Lib.TrimByte
import Derived.Lib.Bytealg
import Derived.Laws.BitsLemmas
import Derived.Laws.RangeAny
import Derived.Laws.Runes
import Derived.Lib.Builder
import Derived.Deep.WholeRow
import Derived.WalkMore
import Derived.Lib.OthersKept
import Derived.Lib.QuietBelow
import Derived.Deep.DrawnRows
import Derived.Laws.Cover1
import Derived.Shelf.SlSorted.Search
import Derived.Shelf.Spec.SlicesGrow
import Derived.StillTailTactics
import Derived.Deep.RegionHeld3
import Derived.Deep.RegionLaw
import Derived.Handy
import Derived.Laws.IdiomCopy
import Derived.Lib.SliceRun
import Derived.LaidEql
import Derived.Stop.Asserts
import Derived.RowKitTokens
import Derived.Laws.ResultCell
import Derived.Deep.LoopGhost
import Derived.Test.YtpmhmippoefcfaaGreatDoorProg
import Derived.Test.YtpmhmippoefcfaaGreatDoorShelf
import Derived.Test.YtpmhmippoefcfaaGreatDoorB01
import Derived.Test.YtpmhmippoefcfaaGreatDoorB02
import Derived.Test.YtpmhmippoefcfaaGreatDoorB03
import Derived.Test.YtpmhmippoefcfaaGreatDoorB04
import Derived.Test.YtpmhmippoefcfaaGreatDoorB05
import Derived.Test.YtpmhmippoefcfaaGreatDoorB06
import Derived.Test.YtpmhmippoefcfaaGreatDoorB07
import Derived.Test.YtpmhmippoefcfaaGreatDoorB08
import Derived.Test.YtpmhmippoefcfaaGreatDoorB09
import Derived.Test.YtpmhmippoefcfaaGreatDoorB10
import Derived.Test.YtpmhmippoefcfaaGreatDoorB12
namespace Go.Proofs.YtpmhmippoefcfaaGreatDoor
open Go.RowKit
theorem one_new (W : World) (t : TypeId) (x : Value) : ∀ (j : Nat) (u : Value), [x][j]? = some u → (W.alloc (.cells #[x] t)).cell? ((⟨W.heap.size, 0, none⟩ : Addr).add j) = some u := by
  intro j u hj
  cases j with
  | zero => simp only [List.getElem?_cons_zero, Option.some.injEq] at hj; subst hj; exact (Boxed.new W t _).cell
  | succ j => simp at hj
theorem one_str (s : ByteArray) : ∀ u ∈ [Value.string s], u.oneCell' = true := by
  intro u hu; simp only [List.mem_singleton] at hu; subst hu; rfl
theorem below_appended {B : Nat} {w W w1 : World} {e : TypeId} {size k : Nat} {v : Value} {xs : List Value} {tmp : Obj} (hle : B ≤ w.heap.size) (hB : Below B w W) (hrow : W.ownsRow B e size v k xs) (hgrow : (W.alloc tmp).grownBy w1 v.ownBlock) : Below B w w1 := by
  have hsz := Nat.le_trans hle hB.size
  refine (hB.alloc hsz tmp).grown hgrow (by simp; omega) fun j ej => ?_
  rcases hrow.2 with ⟨rfl, _⟩ | ⟨g, cap, cur, rfl, hb, _, _⟩
  · simp [Value.ownBlock] at ej
  · obtain rfl : g = j := by simpa [Value.ownBlock] using ej
    exact hb
end Go.Proofs.YtpmhmippoefcfaaGreatDoor
namespace Go.Proofs.YtpmhmippoefcfaaGreatDoor
end Go.Proofs.YtpmhmippoefcfaaGreatDoor
namespace Go.Proofs.YtpmhmippoefcfaaGreatDoor
open Go.RowKit Go.Shelf
attribute [local go_sem] Oper.semAt_some wide_fn wide_depth
end Go.Proofs.YtpmhmippoefcfaaGreatDoor
namespace Go.Proofs.YtpmhmippoefcfaaGreatDoor
open Go.RowKit Go.Shelf
attribute [local go_sem] Oper.semAt_some wide_fn wide_depth
end Go.Proofs.YtpmhmippoefcfaaGreatDoor
namespace Go.Proofs.YtpmhmippoefcfaaGreatDoor
open Go.RowKit Go.Shelf
attribute [local go_sem] Oper.semAt_some wide_fn wide_depth
end Go.Proofs.YtpmhmippoefcfaaGreatDoor
namespace Go.Proofs.YtpmhmippoefcfaaGreatDoor
open Go.RowKit Go.Shelf
attribute [local go_sem] Oper.semAt_some wide_fn wide_depth
end Go.Proofs.YtpmhmippoefcfaaGreatDoor
namespace Go.Proofs.YtpmhmippoefcfaaGreatDoor
open Go.RowKit Go.Shelf
attribute [local go_sem] Oper.semAt_some wide_fn wide_depth
end Go.Proofs.YtpmhmippoefcfaaGreatDoor
namespace Go.Proofs.YtpmhmippoefcfaaGreatDoor
open Go.RowKit Go.Shelf
end Go.Proofs.YtpmhmippoefcfaaGreatDoor
namespace Go.Proofs.YtpmhmippoefcfaaGreatDoor
theorem partOf_len (l : List UInt8) (k : Nat) (st : Option Nat) : (partOf l k st).length ≤ k := by
  cases st with
  | none => simp [partOf]
  | some s => simp [partOf, cutS]; omega
/-- What the reference's loop holds ahead of place k: the parts that are closed, and where the open one began. -/
def RS (l : List UInt8) (k : Nat) (st : Option Nat) (xs : List (List UInt8)) : Prop :=
  xs ++ (sp k st (l.drop k)).map (cutS l) = parts l ∧ (∀ s, st = some s → s < k) ∧ (k = l.length → st = none) ∧ xs.length ≤ k
theorem RS_zero (l : List UInt8) : RS l 0 none [] := ⟨rfl, by simp, by simp, Nat.le_refl _⟩
theorem RS_end {l : List UInt8} {st : Option Nat} {xs : List (List UInt8)} (h : RS l l.length st xs) : xs = parts l := by
  obtain ⟨h1, _, h3, _⟩ := h
  rw [h3 rfl, sp_end] at h1; simpa using h1
theorem RS_skip {l : List UInt8} {k : Nat} {xs : List (List UInt8)} (h : RS l k none xs) (hk : k < l.length) (hc : l[k] = 47) : RS l (k + 1) none xs := by
  obtain ⟨h1, _, _, h4⟩ := h
  rw [sp_slash l k hk hc] at h1
  exact ⟨h1, by simp, by simp, by omega⟩
theorem RS_close {l : List UInt8} {k s : Nat} {xs : List (List UInt8)} (h : RS l k (some s) xs) (hk : k < l.length) (hc : l[k] = 47) : RS l (k + 1) none (xs ++ [partOf l k (some s)]) := by
  obtain ⟨h1, _, _, h4⟩ := h
  rw [sp_some_slash l s k hk hc] at h1
  exact ⟨by simpa [partOf] using h1, by simp, by simp, by simp; omega⟩
theorem RS_goon {l : List UInt8} {k : Nat} {st : Option Nat} {xs : List (List UInt8)} (h : RS l k st xs) (hk : k + 1 < l.length) (hc : l[k] ≠ 47) : RS l (k + 1) (some (st.getD k)) xs := by
  obtain ⟨h1, h2, _, h4⟩ := h
  refine ⟨?_, ?_, by omega, by omega⟩
  · rw [← h1]
    cases st with
    | none => rw [sp_none_part l k (by omega) hc]; rfl
    | some s => rw [sp_some_part l s k (by omega) hc]; rfl
  · intro s hs
    cases st with
    | none => simp at hs; omega
    | some s' => have := h2 s' rfl; simp at hs; omega
theorem RS_last {l : List UInt8} {k : Nat} {st : Option Nat} {xs : List (List UInt8)} (h : RS l k st xs) (hk : k < l.length) (hl : k + 1 = l.length) (hc : l[k] ≠ 47) : RS l (k + 1) none (xs ++ [partOf l (k + 1) (some (st.getD k))]) := by
  obtain ⟨h1, h2, _, h4⟩ := h
  refine ⟨?_, by simp, by simp, by simp; omega⟩
  rw [← h1]
  cases st with
  | none =>
    rw [sp_none_part l k hk hc, hl, sp_some_end, sp_end]; simp [partOf]
  | some s =>
    rw [sp_some_part l s k hk hc, hl, sp_some_end, sp_end]; simp [partOf]
end Go.Proofs.YtpmhmippoefcfaaGreatDoor
namespace Go.Proofs.YtpmhmippoefcfaaGreatDoor
open Go.RowKit Go.Shelf
theorem byte_eq (c : UInt8) : ((c.toNat : Int) == 47) = (c == 47) := by
  rw [Bool.eq_iff_iff, beq_iff_eq, beq_iff_eq]
  constructor
  · intro h; exact UInt8.toNat_inj.1 (by have e : (47 : UInt8).toNat = 47 := rfl; omega)
  · intro h; rw [h]; rfl
theorem pre_byte (s : ByteArray) (h : 0 < s.size) : Lib.hasPrefix s.data.toList [47] = (((s[0]'h).toNat : Int) == 47) := by
  rw [byte_eq, pre_eq]
  have e : ∃ c r, s.data.toList = c :: r ∧ s[0]'h = c := by
    cases hl : s.data.toList with
    | nil => rw [← data_len, hl] at h; cases h
    | cons c r =>
      refine ⟨c, r, rfl, ?_⟩
      have h0 : 0 < s.data.toList.length := by rw [data_len]; exact h
      show s.data.toList[0]'h0 = c
      simp only [hl, List.getElem_cons_zero]
  obtain ⟨c, r, hl, hc⟩ := e
  rw [hl, hc]
theorem suf_byte (s : ByteArray) (h : 0 < s.size) : Lib.hasSuffix s.data.toList [47] = (((s[s.size - 1]'(by omega)).toNat : Int) == 47) := by
  have hn : s.data.toList ≠ [] := by intro e; rw [← data_len, e] at h; cases h
  rw [byte_eq, suf_eq _ hn, List.getLast_eq_getElem]
  have e : s.data.toList[s.data.toList.length - 1]'(by rw [data_len]; omega) = s[s.size - 1]'(by omega) := by
    simp only [data_len]; rfl
  rw [e]
/-- A text, and the byte behind it. -/
theorem cat_one (s : ByteArray) (k : Nat) (h : k < s.size) (q : List UInt8) : (⟨q.toArray⟩ : ByteArray) ++ s.extract k (k + 1) = ⟨(q ++ [s[k]'h]).toArray⟩ := by
  have hl : k < s.data.toList.length := by rw [data_len]; exact h
  have e : List.drop k (List.take (k + 1) s.data.toList) = [s[k]'h] := by
    rw [List.take_succ_eq_append_getElem hl, List.drop_append_of_le_length (by simp; omega)]
    simp; rfl
  apply ByteArray.ext
  rw [extract_eq, e]
  simp
set_option maxRecDepth 100000 in
set_option maxHeartbeats 2000000 in
theorem rsplit_loop (s : ByteArray) (hs : s.size ≤ 65000) (w : World) :
    Calls Tryz.prog 76 #[.string s] w fun e W' => ∃ v, e = .returned (.tuple #[v, .bool (Lib.hasPrefix s.data.toList [47]), .bool (Lib.hasSuffix s.data.toList [47])]) ∧
      W'.ownsRow w.heap.size 9 1 v (parts s.data.toList).length (strs (parts s.data.toList)) ∧ Below w.heap.size w W' := by
  obtain ⟨i0, hi, hz0, hz1, hz2⟩ := info_parts infoStr
  go_enter Tryz.func76, Tryz.ntmps76
  go_wp2
  go_loopw [5, 6, 7] (fun v p i wr => ∃ (k : Nat) (st : Option Nat) (xs : List (List UInt8)) (q : List UInt8), i = .int .i64 k ∧ k ≤ s.size ∧ p = .string ⟨q.toArray⟩ ∧ q = partOf s.data.toList k st ∧ RS s.data.toList k st xs ∧
      wr.ownsRow w.heap.size 9 1 v xs.length (strs xs) ∧ Below w.heap.size w wr) (fun _ _ i _ => s.size - (intOf i).toNat)
  case atStart => exact ⟨0, none, [], [], rfl, Nat.zero_le _, rfl, rfl, RS_zero _, World.ownsRow_lit w #[] 0 (Nat.le_refl _) (Nat.zero_le _) rfl, (Below.refl _ _).alloc (Nat.le_refl _) _⟩
  case round =>
    obtain ⟨k, st, xs, q, rfl, hk, rfl, hq, hrs, hown, hB⟩ := hrel
    have hxl := hrs.2.2.2
    have hst := hrs.2.1
    have HR := Lib.hid hrs
    have HS := Lib.hid hst
    clear hrs hst
    by_cases hlt : k < s.size
    · have hll : k < s.data.toList.length := by rw [data_len]; exact hlt
      have hgl : s.data.toList[k]'hll = s[k]'hlt := rfl
      by_cases hc : s[k]'hlt = 47
      · have hcI : (((s[k]'hlt).toNat : Int) == 47) = true := by rw [hc]; rfl
        have hcN : (((s[k]'hlt).toNat : Int) != 47) = false := by rw [hc]; rfl
        cases st with
        | none =>
          have HR' := RS_skip HR.out hll (hgl.trans hc)
          obtain rfl : q = [] := hq
          have HR1 := Lib.hid HR'
          clear HR' hgl hc hll
          go_wp2
          go_roundw
          case rel => exact ⟨k + 1, none, xs, [], by go_num, by omega, rfl, rfl, HR1.out, hown, hB⟩
          case measure => simp [intOf]; omega
        | some b =>
          have HR' := RS_close HR.out hll (hgl.trans hc)
          rw [← hq] at HR'
          have HR1 := Lib.hid HR'
          have hqn : q ≠ [] := by rw [hq]; exact cutS_ne _ _ _ (HS.out b rfl) (Nat.le_of_lt hll)
          have hqI : (!q.isEmpty) = true := by simpa using hqn
          clear HR' hgl hc hll hqn hq
          go_wp2_with (at_builtin; refine wpList_append_own _ rfl _ _ 78 rfl w.heap.size 9 i0 (.string ByteArray.empty) 1 16 Tryz.underlying78 hi hz0 hz1 hz2 rfl (by decide) _ _ _ rfl (hown.alloc _) ⟨wr.heap.size, 0, none⟩ 1 1 [.string ⟨q.toArray⟩] rfl rfl (one_new _ _ _) (one_str _) (by unfold maxLen; omega) (by omega) (by have := hB.size; simp; omega) ?_; intro v' w1 hown' hgrow _; have hB1 := below_appended (Nat.le_refl _) hB hown hgrow)
          go_roundw
          case rel => exact ⟨k + 1, none, xs ++ [q], [], by go_num, by omega, rfl, rfl, HR1.out, by simpa [strs] using hown', hB1⟩
          case measure => simp [intOf]; omega
      · have hcI : (((s[k]'hlt).toNat : Int) == 47) = false := by
          rw [beq_eq_false_iff_ne]; intro h; exact hc (UInt8.toNat_inj.1 (by have e : (47 : UInt8).toNat = 47 := rfl; omega))
        have hcN : (((s[k]'hlt).toNat : Int) != 47) = true := by
          rw [bne_iff_ne]; intro h; exact hc (UInt8.toNat_inj.1 (by have e : (47 : UInt8).toNat = 47 := rfl; omega))
        obtain ⟨q', hq'⟩ : ∃ q', q' = q ++ [s[k]'hlt] := ⟨_, rfl⟩
        have hqp : q' = partOf s.data.toList (k + 1) (some (st.getD k)) := by rw [hq', hq, ← hgl]; exact partOf_goon HS.out hll
        have HQ := Lib.hid hqp
        have hcat : (⟨q.toArray⟩ : ByteArray) ++ s.extract k (k + 1) = ⟨q'.toArray⟩ := by rw [hq', cat_one s k hlt q]
        have hqI : (!q'.isEmpty) = true := by rw [hq']; simp
        have hroom : ¬ 9223372036854775807 < q.length + (min (k + 1) s.size - k) := by have := partOf_len s.data.toList k st; rw [← hq] at this; omega
        have g1 : (0 : Int) ≤ (k : Int) := by omega
        have g2 : (k : Int) ≤ (k : Int) + 1 := by omega
        have g3 : (k : Int) + 1 ≤ (s.size : Int) := by omega
        by_cases hl : k + 1 = s.size
        · have hkI : ((k : Int) == (s.size : Int) - 1) = true := by rw [beq_iff_eq]; omega
          have HR' := RS_last HR.out hll (by rw [data_len]; exact hl) (by rw [hgl]; exact hc)
          rw [← hqp] at HR'
          have HR1 := Lib.hid HR'
          clear HR' hgl hc hll hq hq' hqp hl
          go_wp2_with (at_builtin; refine wpList_append_own _ rfl _ _ 78 rfl w.heap.size 9 i0 (.string ByteArray.empty) 1 16 Tryz.underlying78 hi hz0 hz1 hz2 rfl (by decide) _ _ _ rfl (hown.alloc _) ⟨wr.heap.size, 0, none⟩ 1 1 [.string ⟨q'.toArray⟩] rfl rfl (one_new _ _ _) (one_str _) (by unfold maxLen; omega) (by omega) (by have := hB.size; simp; omega) ?_; intro v' w1 hown' hgrow _; have hB1 := below_appended (Nat.le_refl _) hB hown hgrow)
          go_roundw
          case rel => exact ⟨k + 1, none, xs ++ [q'], [], by go_num, by omega, rfl, rfl, HR1.out, by simpa [strs] using hown', hB1⟩
          case measure => simp [intOf]; omega
        · have hkI : ((k : Int) == (s.size : Int) - 1) = false := by rw [beq_eq_false_iff_ne]; omega
          have HR' := RS_goon HR.out (by rw [data_len]; omega) (by rw [hgl]; exact hc)
          have HR1 := Lib.hid HR'
          clear HR' hgl hc hll hq hq' hqp
          go_wp2
          go_roundw
          case rel => exact ⟨k + 1, _, xs, q', by go_num, by omega, rfl, HQ.out, HR1.out, hown, hB⟩
          case measure => simp [intOf]; omega
    · obtain rfl : k = s.size := by omega
      have HP : Hid (xs = parts s.data.toList) := Lib.hid (by have := HR.out; rw [← data_len] at this; exact RS_end this)
      obtain rfl := HP.out
      by_cases he : s.data.toList = []
      · have n1 := isEmpty_yes s he
        have n2 : (!s.toList.isEmpty) = false := by rw [n1]; rfl
        have e1 : Hid (Lib.hasPrefix s.data.toList [47] = false ∧ Lib.hasSuffix s.data.toList [47] = false) := Lib.hid (by rw [he]; exact ⟨rfl, rfl⟩)
        clear he
        go_wp2
        go_quiet (fail)
        go_wp2
        refine bodyPost_ret (v := .tuple #[u5, .bool false, .bool false]) (by simp [results, Tryz.results76, go_sem]) rfl ⟨u5, by rw [e1.out.1, e1.out.2], ownsRow_drewN hown _, below_drewN hB _⟩
      · have n1 := isEmpty_no s he
        have n2 : (!s.toList.isEmpty) = true := by rw [n1]; rfl
        have hpos : 0 < s.size := by rw [← data_len]; exact List.length_pos_iff.2 he
        have hposI : (0 : Int) < (s.size : Int) := by omega
        have hlast : (s.size : Int) - 1 < (s.size : Int) := by omega
        have hlast0 : (0 : Int) ≤ (s.size : Int) - 1 := by omega
        have h1I : (1 : Int) ≤ (s.size : Int) := by omega
        have hsum : IntKind.i64.wrap ((s.size : Int) - 1) = (s.size : Int) - 1 := IntWalk.i64_in _ (by omega)
        have htn : ((s.size : Int) - 1).toNat = s.size - 1 := by omega
        have HE := Lib.hid he
        clear he
        go_wp2
        go_quiet (fail)
        go_wp2
        refine bodyPost_ret (v := .tuple #[u5, .bool (((s[0]'hpos).toNat : Int) == 47), .bool (((s[s.size - 1]'(by omega)).toNat : Int) == 47)]) (by simp [results, Tryz.results76, go_sem]) rfl ⟨u5, ?_, ownsRow_drewN hown _, below_drewN hB _⟩
        rw [pre_byte s hpos, suf_byte s hpos]
end Go.Proofs.YtpmhmippoefcfaaGreatDoor
namespace Go.Proofs.YtpmhmippoefcfaaGreatDoor
open Go.RowKit Go.Shelf
/-- How the value of a row looks. -/
theorem ownsRow_form {W : World} {base : Nat} {e : TypeId} {size : Nat} {v : Value} {n : Nat} {xs : List Value} (h : W.ownsRow base e size v n xs) :
    ∃ ao cap, v = .slice ao n cap ∧ (0 < n → ∃ g, ao = some ⟨g, 0, none⟩) := by
  rcases h.2 with ⟨rfl, rfl⟩ | ⟨g, cap, _, rfl, _⟩
  · exact ⟨none, 0, rfl, fun h => (by omega)⟩
  · exact ⟨_, cap, rfl, fun _ => ⟨g, rfl⟩⟩
theorem addr_add (g k : Nat) : (⟨g, 0, none⟩ : Addr).add k = ⟨g, k, none⟩ := by
  unfold Addr.add; split
  · rename_i h; subst h; rfl
  · simp
theorem strs_get (ps : List (List UInt8)) (k : Nat) (h : k < ps.length) : (strs ps)[k]? = some (.string ⟨(ps.getD k []).toArray⟩) := by
  unfold strs
  rw [List.getElem?_map, List.getElem?_eq_getElem h]
  simp [List.getD, h]
end Go.Proofs.YtpmhmippoefcfaaGreatDoor
namespace Go.Proofs.YtpmhmippoefcfaaGreatDoor
open Go.RowKit Go.Shelf
theorem check_r3 {l : List UInt8} (h : l ≠ []) (h2 : ¬ 100 < l.length) (h3 : (0 : UInt8) ∉ l) {k : Nat} (hk : k < (parts l).length) (h4 : 12 < ((parts l).getD k []).length) : checkE l = 9 := by
  refine check_e3 h h2 h3 ?_
  have hs : k < (spans l).length := by simpa [parts] using hk
  refine ⟨(spans l)[k], List.getElem_mem hs, ?_⟩
  rw [← cutS_len l _ (List.getElem_mem hs)]
  simpa [parts, List.getD, hs] using h4
theorem check_r4 {l : List UInt8} (h : l ≠ []) (h2 : ¬ 100 < l.length) (h3 : (0 : UInt8) ∉ l) (h4 : ∀ k, k < (parts l).length → ((parts l).getD k []).length ≤ 12) : checkE l = 0 := by
  refine check_e4 h h2 h3 fun p hp => ?_
  obtain ⟨k, hk, rfl⟩ := List.getElem_of_mem hp
  rw [← cutS_len l _ (List.getElem_mem hk)]
  have := h4 k (by simpa [parts] using hk)
  simpa [parts, List.getD, hk] using this
def NoZero (l : List UInt8) (k : Nat) : Prop := ∀ (j : Nat) (h : j < l.length), j < k → l[j] ≠ 0
def Fits (ps : List (List UInt8)) (k : Nat) : Prop := ∀ j, j < k → (ps.getD j []).length ≤ 12
theorem NoZero_step {l : List UInt8} {k : Nat} (h : NoZero l k) (hk : k < l.length) (hc : l[k] ≠ 0) : NoZero l (k + 1) := by
  intro j hj hjk
  rcases Nat.lt_succ_iff_lt_or_eq.1 hjk with h1 | rfl
  · exact h j hj h1
  · exact hc
theorem NoZero_all {l : List UInt8} (h : NoZero l l.length) : (0 : UInt8) ∉ l := by
  intro hm
  obtain ⟨j, hj, he⟩ := List.getElem_of_mem hm
  exact h j hj hj he
theorem byte0 (c : UInt8) (h : c ≠ 0) : (((c.toNat : Int)) == 0) = false := by
  rw [beq_eq_false_iff_ne]; intro e; exact h (UInt8.toNat_inj.1 (by have : (0 : UInt8).toNat = 0 := rfl; omega))
set_option maxHeartbeats 400000 in
theorem rcheck_zero (s : ByteArray) (hs : s.size ≤ 100) (h1 : s.data.toList ≠ []) (h3 : (0 : UInt8) ∈ s.data.toList) (w : World) :
    Calls Tryz.prog 75 #[.string s] w fun e W' => e = .returned (.int .i64 1) ∧ W' = w := by
  have n1 := isEmpty_no s h1
  have H3 := Lib.hid h3
  clear h1 h3
  go_enter Tryz.func75, Tryz.ntmps75
  go_wp2
  go_loop [3] (fun i => ∃ k : Nat, i = .int .i64 k ∧ k ≤ s.size ∧ Hid (NoZero s.data.toList k)) (fun i => s.size - (intOf i).toNat)
  case atStart => exact ⟨0, rfl, Nat.zero_le _, Lib.hid (fun _ _ h => (by omega))⟩
  case round =>
    obtain ⟨k, rfl, hk, hz⟩ := hrel
    by_cases hlt : k < s.size
    · by_cases hc : s[k]'hlt = 0
      · have hcI : (((s[k]'hlt).toNat : Int) == 0) = true := by rw [hc]; rfl
        clear hc
        go_wp2
        go_ret
        exact ⟨rfl, rfl⟩
      · have hcI := byte0 _ hc
        have hz' : Hid (NoZero s.data.toList (k + 1)) := Lib.hid (NoZero_step hz.out (by rw [data_len]; exact hlt) hc)
        clear hc
        go_wp2
        go_round
        case rel => exact ⟨k + 1, by go_num, by omega, hz'⟩
        case measure => simp [intOf]; omega
    · obtain rfl : k = s.size := by omega
      exact absurd H3.out (NoZero_all (by have := hz.out; rwa [← data_len] at this))
set_option maxRecDepth 100000 in
set_option maxHeartbeats 1000000 in
theorem rcheck_ok (s : ByteArray) (hs : s.size ≤ 100) (h1 : s.data.toList ≠ []) (h3 : (0 : UInt8) ∉ s.data.toList) (w : World) :
    Calls Tryz.prog 75 #[.string s] w fun e W' => e = .returned (.int .i64 (checkE s.data.toList)) ∧ Below w.heap.size w W' := by
  have n1 := isEmpty_no s h1
  have H1 := Lib.hid h1
  have H3 := Lib.hid h3
  clear h1 h3
  go_enter Tryz.func75, Tryz.ntmps75
  go_wp2
  go_loop [3] (fun i => ∃ k : Nat, i = .int .i64 k ∧ k ≤ s.size) (fun i => s.size - (intOf i).toNat)
  case atStart => exact ⟨0, rfl, Nat.zero_le _⟩
  case round =>
    obtain ⟨k, rfl, hk⟩ := hrel
    by_cases hlt : k < s.size
    · have hcI := byte0 (s[k]'hlt) (fun e => H3.out (by
        have hl : k < s.data.toList.length := by rw [data_len]; exact hlt
        rw [← e]; exact List.getElem_mem hl))
      go_wp2
      go_round
      case rel => exact ⟨k + 1, by go_num, by omega⟩
      case measure => simp [intOf]; omega
    · go_wp2_with (go_at_call 76; refine (rsplit_loop _ (by omega) _).mono ?_; rintro e w' ⟨v, rfl, hown, hB⟩; obtain ⟨ao, cap, rfl, hf⟩ := ownsRow_form hown; have HF := Lib.hid hf; clear hf)
      have hle : (parts s.data.toList).length ≤ 65000 := by
        have := spans_len s.data.toList; rw [data_len] at this; simp only [parts, List.length_map]; omega
      obtain ⟨n, hn⟩ : ∃ n, n = (parts s.data.toList).length := ⟨_, rfl⟩
      rw [← hn] at hown hle ⊢
      rw [← hn] at HF
      have HN := Lib.hid hn
      clear hn
      go_loop [7] (fun i => ∃ k : Nat, i = .int .i64 k ∧ k ≤ n ∧ Hid (Fits (parts s.data.toList) k)) (fun i => n - (intOf i).toNat)
      case atStart => exact ⟨0, rfl, Nat.zero_le _, Lib.hid (fun _ h => (by omega))⟩
      case round =>
        obtain ⟨k, rfl, hk, hft⟩ := hrel
        by_cases hlt2 : k < n
        · obtain ⟨g, rfl⟩ := HF.out (by omega)
          have hc := hown.cells (g := g) rfl k _ (strs_get _ k (by rw [← HN.out]; exact hlt2))
          rw [addr_add] at hc
          obtain ⟨x, hx⟩ : ∃ x, x = (parts s.data.toList).getD k [] := ⟨_, rfl⟩
          rw [← hx] at hc
          have HX := Lib.hid hx
          clear hx
          have i0 : (0 : Int) ≤ (k : Int) := by omega
          have i1 : (k : Int) < (n : Int) := by omega
          by_cases hb : 12 < x.length
          · have hbI : (12 : Int) < (x.length : Int) := by omega
            have E : Hid (checkE s.data.toList = 9) := Lib.hid (check_r3 H1.out (by rw [data_len]; omega) H3.out (by rw [← HN.out]; exact hlt2) (by rw [← HX.out]; exact hb))
            go_wp2
            go_ret
            exact ⟨ret_int E.out.symm, hB⟩
          · have hbI : ¬ (12 : Int) < (x.length : Int) := by omega
            have hft' : Hid (Fits (parts s.data.toList) (k + 1)) := Lib.hid (fun j hj => by
              rcases Nat.lt_succ_iff_lt_or_eq.1 hj with h | rfl
              · exact hft.out j h
              · rw [← HX.out]; omega)
            go_wp2
            go_round
            case rel => exact ⟨k + 1, by go_num, by omega, hft'⟩
            case measure => simp [intOf]; omega
        · have E : Hid (checkE s.data.toList = 0) := Lib.hid (check_r4 H1.out (by rw [data_len]; omega) H3.out (fun j hj => hft.out j (by rw [← HN.out] at hj; omega)))
          go_wp2
          go_ret
          exact ⟨ret_int E.out.symm, hB⟩
set_option maxHeartbeats 400000 in
theorem rcheck_any (s : ByteArray) (w : World) :
    Calls Tryz.prog 75 #[.string s] w fun e W' => e = .returned (.int .i64 (checkE s.data.toList)) ∧ Below w.heap.size w W' := by
  by_cases h1 : s.data.toList = []
  · have n1 := isEmpty_yes s h1
    have E := Lib.hid (check_e0 h1)
    clear h1
    go_enter Tryz.func75, Tryz.ntmps75
    go_wp2
    go_ret
    exact ⟨ret_int E.out.symm, Below.refl _ _⟩
  · by_cases h2 : 100 < s.data.toList.length
    · have E := Lib.hid (check_e1 h1 h2)
      have n1 := isEmpty_no s h1
      have n2 : 100 < s.size := by rw [data_len] at h2; omega
      clear h1 h2
      go_enter Tryz.func75, Tryz.ntmps75
      go_wp2
      go_ret
      exact ⟨ret_int E.out.symm, Below.refl _ _⟩
    · have hs : s.size ≤ 100 := by rw [data_len] at h2; omega
      by_cases h3 : (0 : UInt8) ∈ s.data.toList
      · refine (rcheck_zero s hs h1 h3 w).mono fun e w' ⟨he, hw⟩ => ⟨?_, ?_⟩
        · rw [he, check_e2 h1 h2 h3]
        · rw [hw]; exact Below.refl _ _
      · exact rcheck_ok s hs h1 h3 w
end Go.Proofs.YtpmhmippoefcfaaGreatDoor
namespace Go.Proofs.YtpmhmippoefcfaaGreatDoor
end Go.Proofs.YtpmhmippoefcfaaGreatDoor
namespace Go.Proofs.YtpmhmippoefcfaaGreatDoor
open Go.RowKit Go.Shelf
end Go.Proofs.YtpmhmippoefcfaaGreatDoor
namespace Go.Proofs.YtpmhmippoefcfaaGreatDoor
open Go.RowKit Go.Shelf
end Go.Proofs.YtpmhmippoefcfaaGreatDoor
namespace Go.Proofs.YtpmhmippoefcfaaGreatDoor
open Go.RowKit Go.Shelf
end Go.Proofs.YtpmhmippoefcfaaGreatDoor
namespace Go.Proofs.YtpmhmippoefcfaaGreatDoor
end Go.Proofs.YtpmhmippoefcfaaGreatDoor
namespace Go.Proofs.YtpmhmippoefcfaaGreatDoor
open Go.RowKit Go.Shelf
end Go.Proofs.YtpmhmippoefcfaaGreatDoor
namespace Go.Proofs.YtpmhmippoefcfaaGreatDoor
open Go
theorem bv_sub (A R : BitVec 64) : (A &&& 7#64 &&& ~~~ (R &&& 7#64)) = 0#64 ↔ A &&& 7#64 &&& R = A &&& 7#64 := by
  constructor
  · intro h
    apply BitVec.eq_of_getLsbD_eq
    intro i hi
    have := congrArg (fun x : BitVec 64 => x.getLsbD i) h
    simp only [BitVec.getLsbD_and, BitVec.getLsbD_not, BitVec.getLsbD_zero, hi, decide_true, Bool.true_and] at this ⊢
    revert this
    cases A.getLsbD i <;> cases R.getLsbD i <;> cases (7#64).getLsbD i <;> simp
  · intro h
    apply BitVec.eq_of_getLsbD_eq
    intro i hi
    have := congrArg (fun x : BitVec 64 => x.getLsbD i) h
    simp only [BitVec.getLsbD_and, BitVec.getLsbD_not, BitVec.getLsbD_zero, hi, decide_true, Bool.true_and] at this ⊢
    revert this
    cases A.getLsbD i <;> cases R.getLsbD i <;> cases (7#64).getLsbD i <;> simp
theorem sub_and (want rights : Int) : (bits .and .i64 (want % 8) rights = want % 8) ↔ subB want rights = true := by
  have h : want % 8 = (V want &&& V 7).toInt := by rw [← i64_and7, and_V]
  rw [h, and_V, V_toInt, toInt_inj_iff]
  unfold subB
  rw [beq_iff_eq, bv_sub]
  rfl
theorem sub_and8 (want rights : Int) : (bits .and .i64 (want % 8) (rights % 8) = want % 8) ↔ subB want rights = true := by
  rw [sub_and]
  unfold subB
  have h : V (rights % 8) = V rights &&& 7#64 := by rw [← i64_and7, and_V, V_toInt]; rfl
  rw [h, BitVec.and_assoc (V rights), BitVec.and_self]
end Go.Proofs.YtpmhmippoefcfaaGreatDoor
namespace Go.Proofs.YtpmhmippoefcfaaGreatDoor
open Go.RowKit
theorem rmay_any (m owner who want : Int) (w : World) : Calls Tryz.prog 78 #[.int .i64 m, .int .i64 owner, .int .i64 who, .int .i64 want] w fun e w' => e = .returned (.bool (mayB m owner who want)) ∧ w = w' := by
  by_cases h0 : who = 0
  · subst h0
    have H : Hid (mayB m owner 0 want = true) := Lib.hid (may_zero _ _ _)
    go_enter Tryz.func78, Tryz.ntmps78
    go_wp2
    go_ret
    exact ⟨ret_bool H.out.symm, rfl⟩
  · have h0I : (who == 0) = false := by rw [beq_eq_false_iff_ne]; exact h0
    by_cases ho : owner = who
    · have hoI : (owner == who) = true := by rw [beq_iff_eq]; exact ho
      have H : Hid (mayB m owner who want = subB want (m / 8)) := Lib.hid (by unfold mayB; rw [if_neg h0, if_pos ho])
      clear h0 ho
      go_enter Tryz.func78, Tryz.ntmps78
      go_wp2
      go_ret
      refine ⟨ret_bool ?_, rfl⟩
      rw [H.out, i64_and7, i64_and7, Bool.eq_iff_iff, beq_iff_eq]
      exact sub_and8 _ _
    · have hoI : (owner == who) = false := by rw [beq_eq_false_iff_ne]; exact ho
      have H : Hid (mayB m owner who want = subB want m) := Lib.hid (by unfold mayB; rw [if_neg h0, if_neg ho])
      clear h0 ho
      go_enter Tryz.func78, Tryz.ntmps78
      go_wp2
      go_ret
      refine ⟨ret_bool ?_, rfl⟩
      rw [H.out, i64_and7, i64_and7, Bool.eq_iff_iff, beq_iff_eq]
      exact sub_and8 _ _
end Go.Proofs.YtpmhmippoefcfaaGreatDoor
namespace Go.Proofs.YtpmhmippoefcfaaGreatDoor
theorem filter_two (l : List EntL) (p q r : EntL → Bool) (h : ∀ e, (p e && q e) = r e) : (l.filter p).filter q = l.filter r := by
  rw [List.filter_filter]
  exact List.filter_congr fun e _ => by rw [Bool.and_comm]; exact h e
/-- The document's putting, part by part. -/
theorem put_lo (l : List EntL) (n : Nm) : (dropL l n).filter (fun e => decide (e.1 < n)) = lo l n := by
  refine filter_two _ _ _ _ fun e => ?_
  by_cases h : e.1 < n
  · simp [h, lt_ne h]
  · simp [h]
theorem put_hi (l : List EntL) (n : Nm) : (dropL l n).filter (fun e => decide (n < e.1)) = hi l n := by
  refine filter_two _ _ _ _ fun e => ?_
  by_cases h : n < e.1
  · simp [h, (lt_ne h).symm]
  · simp [h]
theorem filter_take_yes (l : List EntL) (p : EntL → Bool) (k : Nat) (h : k < l.length) (hp : p l[k] = true) : (l.take (k + 1)).filter p = (l.take k).filter p ++ [l[k]] := by
  rw [List.take_succ_eq_append_getElem h, List.filter_append, List.filter_cons_of_pos hp]; rfl
theorem filter_take_no (l : List EntL) (p : EntL → Bool) (k : Nat) (h : k < l.length) (hp : p l[k] = false) : (l.take (k + 1)).filter p = (l.take k).filter p := by
  rw [List.take_succ_eq_append_getElem h, List.filter_append, List.filter_cons_of_neg (by simp [hp]), List.filter_nil, List.append_nil]
end Go.Proofs.YtpmhmippoefcfaaGreatDoor
namespace Go.Proofs.YtpmhmippoefcfaaGreatDoor
end Go.Proofs.YtpmhmippoefcfaaGreatDoor
namespace Go.Proofs.YtpmhmippoefcfaaGreatDoor
open Go.RowKit Go.Shelf
end Go.Proofs.YtpmhmippoefcfaaGreatDoor
namespace Go.Proofs.YtpmhmippoefcfaaGreatDoor
open Go.RowKit Go.Shelf
end Go.Proofs.YtpmhmippoefcfaaGreatDoor
namespace Go.Proofs.YtpmhmippoefcfaaGreatDoor
open Go.RowKit Go.Shelf
end Go.Proofs.YtpmhmippoefcfaaGreatDoor
namespace Go.Proofs.YtpmhmippoefcfaaGreatDoor
open Go.RowKit Go.Shelf
attribute [local go_sem ↓] Go.wp_at_zero Go.wp_at_succ
end Go.Proofs.YtpmhmippoefcfaaGreatDoor
namespace Go.Proofs.YtpmhmippoefcfaaGreatDoor
open Go.RowKit Go.Shelf
attribute [local go_sem ↓] Go.wp_at_zero Go.wp_at_succ
end Go.Proofs.YtpmhmippoefcfaaGreatDoor
namespace Go.Proofs.YtpmhmippoefcfaaGreatDoor
open Go.RowKit Go.Shelf
attribute [local go_sem ↓] Go.wp_at_zero Go.wp_at_succ
end Go.Proofs.YtpmhmippoefcfaaGreatDoor
namespace Go.Proofs.YtpmhmippoefcfaaGreatDoor
open Go.RowKit Go.Shelf
attribute [local go_sem ↓] Go.wp_at_zero Go.wp_at_succ
theorem find_take_yes {l : List EntL} {n : Nm} {k : Nat} (hk : k < l.length) (h : findL (l.take k) n = none) (e : l[k].1 = n) : findL l n = some l[k].2 := by
  have h1 : (l.take k).find? (fun e => e.1 == n) = none := by
    unfold findL at h
    rwa [Option.map_eq_none_iff] at h
  have h2 : l = l.take k ++ l[k] :: l.drop (k + 1) := by rw [List.getElem_cons_drop, List.take_append_drop]
  have h3 : (l.take k ++ l[k] :: l.drop (k + 1)).find? (fun e => e.1 == n) = some l[k] := by
    rw [List.find?_append, h1, Option.none_or, List.find?_cons_of_pos (by simpa using e)]
  unfold findL
  rw [show l.find? (fun e => e.1 == n) = some l[k] by rw [← h2] at h3; exact h3]
  rfl
theorem find_take_no {l : List EntL} {n : Nm} {k : Nat} (hk : k < l.length) (h : findL (l.take k) n = none) (e : l[k].1 ≠ n) : findL (l.take (k + 1)) n = none := by
  have h1 : (l.take k).find? (fun e => e.1 == n) = none := by
    unfold findL at h
    rwa [Option.map_eq_none_iff] at h
  unfold findL
  rw [List.take_succ_eq_append_getElem hk, List.find?_append, h1, Option.none_or, List.find?_cons_of_neg (by simpa using e)]
  rfl
def RFindIs (o : Option Int) (e : Ending) (W W' : World) : Prop := e = .returned (.tuple #[.int .i64 (vint o), .bool o.isSome]) ∧ W = W'
set_option maxRecDepth 100000 in
set_option maxHeartbeats 1000000 in
theorem rfind_any (B : Nat) (v : Value) (l : List EntL) (n : Nm) (w : World) (hv : Rd B 2 v l.length (ents l) w) (hl : l.length ≤ 10000) :
    Calls Tryz.prog 37 #[v, .string (bs n)] w fun e w' => RFindIs (findL l n) e w w' := by
  obtain ⟨ao, cap, rfl, _, _⟩ := hv.form
  have HV := Lib.hid hv
  clear hv
  go_enter Tryz.func37, Tryz.ntmps37
  go_wp2_with fail
  go_loop [6] (fun i => ∃ k : Nat, i = .int .i64 k ∧ k ≤ l.length ∧ Hid (findL (l.take k) n = none)) (fun i => l.length - (intOf i).toNat)
  case atStart => exact ⟨0, rfl, Nat.zero_le _, Lib.hid rfl⟩
  case round =>
    obtain ⟨k, rfl, hk, hF⟩ := hrel
    by_cases hlt : k < l.length
    · obtain ⟨b, off, cap', e, hn, hm, hb, hlen, hc⟩ := HV.out.at (by omega)
      injection e with e1 _ e2
      subst e1
      subst e2
      have hc0 := hc _ _ (ents_at0 l k hlt)
      have hc1 : w.cell? ⟨b, off + k * 2 + 1, none⟩ = _ := hc (k * 2 + 1) _ (ents_at1 l k hlt)
      clear hc
      by_cases hq : (l[k]).1 = n
      · have hI : ((l[k]).1 == n) = true := by rw [beq_iff_eq]; exact hq
        have HR : Hid (findL l n = some (l[k]).2) := Lib.hid (find_take_yes hlt hF.out hq)
        clear hq
        go_wp2_with fail
        go_ret2
        exact ⟨by rw [HR.out]; rfl, rfl⟩
      · have hI := beq_list_false hq
        have HR : Hid (findL (l.take (k + 1)) n = none) := Lib.hid (find_take_no hlt hF.out hq)
        clear hq
        go_wp2_with fail
        go_round
        case rel => exact ⟨k + 1, by go_num, hlt, HR⟩
        case measure => simp [intOf]; omega
    · have hke : k = l.length := by omega
      have HR : Hid (findL l n = none) := Lib.hid (by have := hF.out; rwa [hke, List.take_length] at this)
      have hI2 : decide (k < l.length) = false := by simp; omega
      clear hke hlt
      go_wp2_with fail
      go_ret2
      exact ⟨by rw [HR.out]; rfl, rfl⟩
/-- A call that gives a list of entries, in memory that is read from then on. -/
def GivesE (l : List EntL) (e : Ending) (W W' : World) : Prop := ∃ v, e = .returned v ∧ Rd W'.heap.size 2 v l.length (ents l) W' ∧ Below W.heap.size W W'
set_option maxRecDepth 100000 in
set_option maxHeartbeats 1000000 in
theorem rdrop_any (B : Nat) (v : Value) (l : List EntL) (n : Nm) (w : World) (hv : Rd B 2 v l.length (ents l) w) (hB : B ≤ w.heap.size) (hl : l.length ≤ 10000) :
    Calls Tryz.prog 69 #[v, .string (bs n)] w fun e w' => GivesE (dropL l n) e w w' := by
  obtain ⟨ao, cap, rfl, _, _⟩ := hv.form
  obtain ⟨i0, hi, hz0, hz1, hz2⟩ := info_parts infoREnt
  have HV := Lib.hid hv
  clear hv
  go_enter Tryz.func69, Tryz.ntmps69
  go_wp2_with fail
  go_loopw [5, 6] (fun o i wr => ∃ k : Nat, i = .int .i64 k ∧ k ≤ l.length ∧ wr.ownsRow w.heap.size 130 2 o (dropL (l.take k) n).length (ents (dropL (l.take k) n)) ∧ Below w.heap.size w wr) (fun _ i _ => l.length - (intOf i).toNat)
  case atStart => exact ⟨0, rfl, Nat.zero_le _, World.ownsRow_lit (size := 2) w #[] 0 (Nat.le_refl _) (Nat.zero_le _) rfl, (Below.refl _ _).alloc (Nat.le_refl _) _⟩
  case round =>
    obtain ⟨k, rfl, hk, hown, hBr⟩ := hrel
    by_cases hlt : k < l.length
    · obtain ⟨b, off, cap', e, hn, hm, hb, hlen, hc⟩ := HV.out.at (by omega)
      injection e with e1 _ e2
      subst e1
      subst e2
      have hc0 := (hBr.cell (p := ⟨b, off + k * 2, none⟩) (by show b < _; omega)).trans (hc _ _ (ents_at0 l k hlt))
      have hc1 : wr.cell? ⟨b, off + k * 2 + 1, none⟩ = _ := (hBr.cell (p := ⟨b, off + k * 2 + 1, none⟩) (by show b < _; omega)).trans (hc (k * 2 + 1) _ (ents_at1 l k hlt))
      have sB := hBr.size
      have hdl : (dropL (l.take k) n).length ≤ 10000 := by
        have := List.length_filter_le (fun e : EntL => !(e.1 == n)) (l.take k)
        rw [List.length_take] at this
        unfold dropL
        omega
      clear hc
      by_cases hq : (l[k]).1 = n
      · have hI : ((l[k]).1 == n) = true := by rw [beq_iff_eq]; exact hq
        have HD : Hid (dropL (l.take (k + 1)) n = dropL (l.take k) n) := Lib.hid (filter_take_no l _ k hlt (by simp [hq]))
        clear hq
        go_wp2_with fail
        go_roundw
        case rel => exact ⟨k + 1, by go_num, hlt, by rw [HD.out]; exact hown, hBr⟩
        case measure => simp [intOf]; omega
      · have hI := beq_list_false hq
        have HD : Hid (dropL (l.take (k + 1)) n = dropL (l.take k) n ++ [l[k]]) := Lib.hid (filter_take_yes l _ k hlt (by simpa using hq))
        have ht : Hid (ents (dropL (l.take (k + 1)) n) = ents (dropL (l.take k) n) ++ [.string (bs (l[k]).1), .int .i64 (l[k]).2]) := Lib.hid (by rw [HD.out, ents_app]; rfl)
        have hlen2 : Hid ((dropL (l.take (k + 1)) n).length = (dropL (l.take k) n).length + 1) := Lib.hid (by rw [HD.out]; simp)
        clear hq
        generalize (dropL (l.take k) n).length = dk at *
        go_wp2_with (at_builtin; refine wpList_append_own _ rfl (.tmp 21) (.tmp 26) 72 rfl w.heap.size 130 i0 _ 2 24 Tryz.underlying72 hi hz0 hz1 hz2 rfl (by decide) _ dk _ rfl (hown.alloc _) ⟨wr.heap.size, 0, none⟩ 1 1 [.string (bs (l[k]).1), .int .i64 (l[k]).2] rfl rfl (World.news_of_block (cs := #[.string (bs (l[k]).1), .int .i64 (l[k]).2]) (t := 130) (fr := (0, 0)) (heap_alloc_new wr _)) (by simp [Value.oneCell']) (by unfold maxLen; omega) (by omega) (by simp; omega) ?_)
        intro v3 w3 ho3 hgr3 _
        have hB3 := below_appended (Nat.le_refl _) hBr hown hgr3
        rw [← ht.out, ← hlen2.out] at ho3
        go_wp2
        go_roundw
        case rel => exact ⟨k + 1, by go_num, hlt, ho3, hB3⟩
        case measure => simp [intOf]; omega
    · have hke : k = l.length := by omega
      have HT : Hid (l.take k = l) := Lib.hid (by rw [hke, List.take_length])
      have hge : l.length ≤ k := by omega
      clear hke hlt
      go_wp2_with fail
      go_ret
      refine ⟨_, rfl, ?_, hBr⟩
      have := Rd.own hown (Nat.le_refl _)
      rw [HT.out] at this
      exact this
end Go.Proofs.YtpmhmippoefcfaaGreatDoor
namespace Go.Proofs.YtpmhmippoefcfaaGreatDoor
open Go.RowKit Go.Shelf
attribute [local go_sem ↓] Go.wp_at_zero Go.wp_at_succ
theorem lo_take_len (l : List EntL) (n : Nm) (k : Nat) : (lo (l.take k) n).length ≤ l.length := by
  have := lo_len (l.take k) n
  rw [List.length_take] at this
  omega
theorem hi_take_len (l : List EntL) (n : Nm) (k : Nat) : (hi (l.take k) n).length ≤ l.length := by
  have : (hi (l.take k) n).length ≤ (l.take k).length := List.length_filter_le _ _
  rw [List.length_take] at this
  omega
end Go.Proofs.YtpmhmippoefcfaaGreatDoor
namespace Go.Proofs.YtpmhmippoefcfaaGreatDoor
open Go.RowKit Go.Shelf
attribute [local go_sem ↓] Go.wp_at_zero Go.wp_at_succ
end Go.Proofs.YtpmhmippoefcfaaGreatDoor
namespace Go.Proofs.YtpmhmippoefcfaaGreatDoor
open Go.RowKit Go.Shelf
open Go.WideShapes (add_plain)
attribute [local go_sem ↓] Go.wp_at_zero Go.wp_at_succ
end Go.Proofs.YtpmhmippoefcfaaGreatDoor
namespace Go.Proofs.YtpmhmippoefcfaaGreatDoor
open Go.RowKit Go.Shelf
open Go.WideShapes (add_plain)
attribute [local go_sem ↓] Go.wp_at_zero Go.wp_at_succ
end Go.Proofs.YtpmhmippoefcfaaGreatDoor
namespace Go.Proofs.YtpmhmippoefcfaaGreatDoor
open Go.RowKit Go.Shelf
open Go.WideShapes (add_plain)
attribute [local go_sem ↓] Go.wp_at_zero Go.wp_at_succ
end Go.Proofs.YtpmhmippoefcfaaGreatDoor
namespace Go.Proofs.YtpmhmippoefcfaaGreatDoor
open Go.RowKit Go.Shelf
attribute [local go_sem ↓] Go.wp_at_zero Go.wp_at_succ
set_option maxRecDepth 100000 in
set_option maxHeartbeats 1000000 in
theorem rused_any (v : Value) (ms : List NodeM) (most room : Int) (w : World) (hv : RdM w.heap.size v ms w) (hl : ms.length ≤ 10000) :
    Calls Tryz.prog 114 #[.agg #[v, .int .i64 most, .int .i64 room]] w fun e w' => e = .returned (.int .i64 (usedL (pl ms))) ∧ Below w.heap.size w w' := by
  obtain ⟨ao, cap, rfl, _, _⟩ := rdm_form hv
  have hb0 : Below w.heap.size w (w.alloc (.cells #[.slice ao ms.length cap, .int .i64 most, .int .i64 room] 32)) := (Below.refl _ w).alloc (Nat.le_refl _) _
  have HV := Lib.hid (hv.below hb0)
  clear hv
  go_enter Tryz.func114, Tryz.ntmps114
  go_wp2_with fail
  go_loop [3, 4] (fun z i => ∃ k : Nat, i = .int .i64 k ∧ k ≤ ms.length ∧ z = .int .i64 (usedL ((pl ms).take k))) (fun _ i => ms.length - (intOf i).toNat)
  case atStart => exact ⟨0, rfl, Nat.zero_le _, rfl⟩
  case round =>
    obtain ⟨k, rfl, hk, rfl⟩ := hrel
    by_cases hlt : k < ms.length
    · obtain ⟨b, off, n, aon, capn, rfl, hb, hn, -, -, c0, -⟩ := node_at HV.out k hlt
      have hs := used_succ (pl ms) k (by rw [pl_len]; exact hlt)
      have hle : usedL ((pl ms).take k) ≤ 10000 := by have := used_le ((pl ms).take k); rw [List.length_take, pl_len] at this; omega
      rw [hn] at hs
      have HS := Lib.hid hs
      have HN := Lib.hid hn
      clear hs hn
      generalize usedL ((pl ms).take k) = z at *
      by_cases h0 : n.kind = 0
      · have hI : (n.kind != 0) = false := by simpa using h0
        have HS' := Lib.hid (show usedL ((pl ms).take (k + 1)) = z by rw [HS.out, if_pos h0]; rfl)
        clear h0
        go_wp2_with fail
        go_round
        case rel => exact ⟨k + 1, by go_num, hlt, by rw [HS'.out]⟩
        case measure => simp [intOf]; omega
      · have hI : (n.kind != 0) = true := by simpa using h0
        have HS' := Lib.hid (show usedL ((pl ms).take (k + 1)) = z + 1 by rw [HS.out, if_neg h0])
        clear h0
        go_wp2_with fail
        go_round
        case rel => exact ⟨k + 1, by go_num, hlt, by rw [HS'.out]; go_num⟩
        case measure => simp [intOf]; omega
    · have hke : k = ms.length := by omega
      have HT : Hid ((pl ms).take k = pl ms) := Lib.hid (by rw [hke, ← pl_len, List.take_length])
      have hI2 : decide (k < ms.length) = false := by simp; omega
      clear hke hlt
      go_wp2_with fail
      go_ret
      exact ⟨ret_int (by rw [HT.out]), hb0⟩
end Go.Proofs.YtpmhmippoefcfaaGreatDoor
namespace Go.Proofs.YtpmhmippoefcfaaGreatDoor
open Go.RowKit Go.Shelf
attribute [local go_sem ↓] Go.wp_at_zero Go.wp_at_succ
def sameD (a b : List NodeL) (m1 r1 m2 r2 : Int) : Bool := decide (m1 = m2 ∧ r1 = r2 ∧ a = b)
set_option maxRecDepth 100000 in
set_option maxHeartbeats 4000000 in
theorem sameD_any (va vb : Value) (la lb : List NodeM) (m1 r1 m2 r2 : Int) (w : World) (ha : RdM w.heap.size va la w) (hb : RdM w.heap.size vb lb w) (hal : la.length ≤ 10000) (hna : ∀ n ∈ pl la, n.names.length ≤ 10000) (hnb : ∀ n ∈ pl lb, n.names.length ≤ 10000) :
    Calls Tryz.prog 21 #[.agg #[va, .int .i64 m1, .int .i64 r1], .agg #[vb, .int .i64 m2, .int .i64 r2]] w fun e w' => e = .returned (.bool (sameD (pl la) (pl lb) m1 r1 m2 r2)) ∧ Below w.heap.size w w' := by
  obtain ⟨aoa, capa, rfl, _, _⟩ := rdm_form ha
  obtain ⟨aob, capb, rfl, _, _⟩ := rdm_form hb
  have HA := Lib.hid ha
  have HB := Lib.hid hb
  have HNA := Lib.hid hna
  have HNB := Lib.hid hnb
  clear ha hb hna hnb
  have hb0 : Below w.heap.size w ((w.alloc (.cells #[.slice aoa la.length capa, .int .i64 m1, .int .i64 r1] 32)).alloc (.cells #[.slice aob lb.length capb, .int .i64 m2, .int .i64 r2] 32)) := ((Below.refl _ w).alloc (Nat.le_refl _) _).alloc (by simp) _
  by_cases h1 : m1 = m2
  case neg =>
    have hI : (m1 != m2) = true := by simpa using h1
    have HF : Hid (sameD (pl la) (pl lb) m1 r1 m2 r2 = false) := Lib.hid (by unfold sameD; simp [h1])
    clear h1
    go_enter Tryz.func21, Tryz.ntmps21
    go_wp2_with fail
    go_ret
    exact ⟨ret_bool HF.out.symm, hb0⟩
  have g1 : (m1 != m2) = false := by simpa using h1
  by_cases h2 : r1 = r2
  case neg =>
    have hI : (r1 != r2) = true := by simpa using h2
    have HF : Hid (sameD (pl la) (pl lb) m1 r1 m2 r2 = false) := Lib.hid (by unfold sameD; simp [h2])
    clear h1 h2
    go_enter Tryz.func21, Tryz.ntmps21
    go_wp2_with fail
    go_ret
    exact ⟨ret_bool HF.out.symm, hb0⟩
  have g2 : (r1 != r2) = false := by simpa using h2
  by_cases h3 : la.length = lb.length
  case neg =>
    have hI : ((la.length : Int) != (lb.length : Int)) = true := by rw [bne_iff_ne]; omega
    have HF : Hid (sameD (pl la) (pl lb) m1 r1 m2 r2 = false) := Lib.hid (by unfold sameD; rw [decide_eq_false_iff_not]; rintro ⟨_, _, e⟩; exact h3 (by rw [← pl_len, e, pl_len]))
    clear h1 h2 h3
    go_enter Tryz.func21, Tryz.ntmps21
    go_wp2_with fail
    go_ret
    exact ⟨ret_bool HF.out.symm, hb0⟩
  have g3 : ((la.length : Int) != (lb.length : Int)) = false := by rw [h3]; simp
  have HE : Hid (sameD (pl la) (pl lb) m1 r1 m2 r2 = decide (pl la = pl lb)) := Lib.hid (by unfold sameD; simp [h1, h2])
  have hle1 : la.length ≤ lb.length := by omega
  have hle2 : lb.length ≤ la.length := by omega
  clear h1 h2 h3
  clear hb0
  go_enter Tryz.func21, Tryz.ntmps21
  go_wp2_with fail
  refine fresh2 (P := fun W => Code.wp _ _ _ _ W) ?_
  intro W0 hb0 hP hR hs0
  go_loopw [5] (fun i wr => ∃ k : Nat, i = .int .i64 k ∧ k ≤ la.length ∧ Hid (sameTo (pl la) (pl lb) k) ∧ Below W0.heap.size W0 wr) (fun i _ => la.length - (intOf i).toNat)
  case atStart => exact ⟨0, rfl, Nat.zero_le _, Lib.hid rfl, Below.refl _ _⟩
  case round =>
    obtain ⟨k, rfl, hk, hS, hBr⟩ := hrel
    have hBw : Below w.heap.size w wr := hb0.trans (hBr.mono (by omega))
    have p0 := (cells3 ((hBr.block _ (by omega)).trans hP)).1
    have q0 := (cells3 ((hBr.block _ (by omega)).trans hR)).1
    by_cases hlt : k < la.length
    · have hltb : k < lb.length := by omega
      obtain ⟨b, off, n, aon, capn, rfl, hb, hn, -, hrn, c0, c1, c2, c3, c4, c5, c6, c7⟩ := node_at (HA.out.below hBw) k hlt
      obtain ⟨b', off', n', aon', capn', rfl, hb', hn', -, hrn', d0, d1, d2, d3, d4, d5, d6, d7⟩ := node_at (HB.out.below hBw) k hltb
      have hx1 := HNA.out n (by rw [← hn]; exact List.getElem_mem _)
      have hx2 := HNB.out n' (by rw [← hn']; exact List.getElem_mem _)
      have HR1 : Hid (RdNm wr.heap.size (n, .slice aon n.names.length capn) wr) := Lib.hid (Rd.mono hrn hBw.size)
      have HR2 : Hid (RdNm wr.heap.size (n', .slice aon' n'.names.length capn') wr) := Lib.hid (Rd.mono hrn' hBw.size)
      have HL : ∀ W, Below wr.heap.size wr W → Calls Tryz.prog 47 #[nval n (.slice aon n.names.length capn), nval n' (.slice aon' n'.names.length capn')] W fun e w' => e = .returned (.bool (decide (n = n'))) ∧ Below W.heap.size W w' :=
        fun W hb => alike_any n n' _ _ W (rdnm_keep HR1.out hb) (rdnm_keep HR2.out hb) hx1 hx2
      have k0 : (0 : Int) ≤ (k : Int) := by omega
      have k1 : (k : Int) < (la.length : Int) := by omega
      have k2 : (k : Int) < (lb.length : Int) := by omega
      have HN := Lib.hid (show n = (pl la)[k]'(by rw [pl_len]; exact hlt) from hn.symm)
      have HN' := Lib.hid (show n' = (pl lb)[k]'(by rw [pl_len]; exact hltb) from hn'.symm)
      clear hrn hrn' hn hn' hP hR
      by_cases hq : n = n'
      · have hd : decide (n = n') = true := by simpa using hq
        have hs' := Lib.hid (sameTo_succ hS.out (by rw [pl_len]; exact hlt) (by rw [pl_len]; exact hltb) (HN.out.symm.trans (hq.trans HN'.out)))
        rw [hd] at HL
        clear hq hd
        go_wp2_with fail
        have cc0 := cell_regrown c0
        have cc1 := cell_regrown c1
        have cc2 := cell_regrown c2
        have cc3 := cell_regrown c3
        have cc4 := cell_regrown c4
        have cc5 := cell_regrown c5
        have cc6 := cell_regrown c6
        have cc7 := cell_regrown c7
        have dd0 := cell_regrown d0
        have dd1 := cell_regrown d1
        have dd2 := cell_regrown d2
        have dd3 := cell_regrown d3
        have dd4 := cell_regrown d4
        have dd5 := cell_regrown d5
        have dd6 := cell_regrown d6
        have dd7 := cell_regrown d7
        have pp0 := cell_regrown p0
        have qq0 := cell_regrown q0
        refine wp_region_quiet_below (by kernel_rfl) (by kernel_rfl) ?_
        repeat (go_big_quiet_step ((go_at_call 47; exact Calls.regrown_of (HL _ (below_regrown wr _ _)))))
        refine wpQuiet_nil ?_
        clear cc0 cc1 cc2 cc3 cc4 cc5 cc6 cc7 dd0 dd1 dd2 dd3 dd4 dd5 dd6 dd7 pp0 qq0
        intro _ hw'
        obtain ⟨⟨dq, osq⟩, hw''⟩ := hw'
        have hbg : Below wr.heap.size wr _ := below_regrown wr dq osq
        rw [← hw''] at hbg
        clear hw''
        rename_i W2
        have hB2 := ret_tr hBr hbg
        go_wp2_with fail
        go_roundw
        case rel => exact ⟨k + 1, by go_num, hlt, hs', hB2⟩
        case measure => simp [intOf]; omega
      · have hd : decide (n = n') = false := by simpa using hq
        have HF : Hid (decide (pl la = pl lb) = false) := Lib.hid (by
          rw [decide_eq_false_iff_not]; intro e; apply hq; rw [HN.out, HN'.out]; simp only [e])
        rw [hd] at HL
        clear hq hd
        go_wp2_with fail
        have cc0 := cell_regrown c0
        have cc1 := cell_regrown c1
        have cc2 := cell_regrown c2
        have cc3 := cell_regrown c3
        have cc4 := cell_regrown c4
        have cc5 := cell_regrown c5
        have cc6 := cell_regrown c6
        have cc7 := cell_regrown c7
        have dd0 := cell_regrown d0
        have dd1 := cell_regrown d1
        have dd2 := cell_regrown d2
        have dd3 := cell_regrown d3
        have dd4 := cell_regrown d4
        have dd5 := cell_regrown d5
        have dd6 := cell_regrown d6
        have dd7 := cell_regrown d7
        have pp0 := cell_regrown p0
        have qq0 := cell_regrown q0
        refine wp_region_quiet_below (by kernel_rfl) (by kernel_rfl) ?_
        repeat (go_big_quiet_step ((go_at_call 47; exact Calls.regrown_of (HL _ (below_regrown wr _ _)))))
        refine wpQuiet_nil ?_
        clear cc0 cc1 cc2 cc3 cc4 cc5 cc6 cc7 dd0 dd1 dd2 dd3 dd4 dd5 dd6 dd7 pp0 qq0
        intro _ hw'
        obtain ⟨⟨dq, osq⟩, hw''⟩ := hw'
        have hbg : Below wr.heap.size wr _ := below_regrown wr dq osq
        rw [← hw''] at hbg
        clear hw''
        rename_i W2
        have hB2 := ret_tr hBr hbg
        go_wp2_with fail
        go_ret
        exact ⟨ret_bool (by rw [HE.out, HF.out]), hb0.trans (hB2.mono (by omega))⟩
    · have hke : k = la.length := by omega
      have HF : Hid (decide (pl la = pl lb) = true) := Lib.hid (by
        rw [decide_eq_true_iff]
        have := hS.out
        unfold sameTo at this
        rwa [List.take_of_length_le (by rw [pl_len]; omega), List.take_of_length_le (by rw [pl_len]; omega)] at this)
      have hI2 : decide (k < la.length) = false := by simp; omega
      clear hke hlt
      go_wp2_with fail
      go_ret
      exact ⟨ret_bool (by rw [HE.out, HF.out]), hBw⟩
end Go.Proofs.YtpmhmippoefcfaaGreatDoor
namespace Go.Proofs.YtpmhmippoefcfaaGreatDoor
open Go.RowKit Go.Shelf
attribute [local go_sem ↓] Go.wp_at_zero Go.wp_at_succ
end Go.Proofs.YtpmhmippoefcfaaGreatDoor
namespace Go.Proofs.YtpmhmippoefcfaaGreatDoor
open Go.RowKit Go.Shelf
attribute [local go_sem ↓] Go.wp_at_zero Go.wp_at_succ
end Go.Proofs.YtpmhmippoefcfaaGreatDoor
namespace Go.Proofs.YtpmhmippoefcfaaGreatDoor
open Go.RowKit Go.Shelf
theorem Posted.go {p : Prop} (h : p) : Posted p := h
section
variable {P : Program} {fn : Func} {Q : Ending → World → Prop} {x : Exit} {a : Act} {w : World} {A B : Obj}
theorem calls_fresh2 {f : FuncId} {args : Array Value} (h : ∀ W, Below w.heap.size w W → W.heap[w.heap.size]? = some A → W.heap[w.heap.size + 1]? = some B → W.heap.size = w.heap.size + 2 → Calls P f args W Q) : Calls P f args ((w.alloc A).alloc B) Q := fresh2 (P := fun W => Calls P f args W Q) h
variable {b : Nat} {u0 u1 u2 u3 u4 u5 u6 u7 r0 r1 r2 r3 r4 r5 r6 r7 : Value} {t : TypeId}
end
end Go.Proofs.YtpmhmippoefcfaaGreatDoor
namespace Go.Proofs.YtpmhmippoefcfaaGreatDoor
open Go.RowKit Go.Shelf
attribute [local go_sem ↓] Go.wp_at_zero Go.wp_at_succ
set_option maxRecDepth 100000 in
set_option maxHeartbeats 4000000 in
theorem rdir_any (v : Value) (ms : List NodeM) (most room i : Int) (w : World) (hv : RdM w.heap.size v ms w) (hl : ms.length ≤ 10000) :
    Calls Tryz.prog 77 #[.agg #[v, .int .i64 most, .int .i64 room], .int .i64 i] w fun e w' => NumIs (dirE (pl ms) i) e w w' := by
  obtain ⟨aod, capd, rfl, _, _⟩ := rdm_form hv
  have hb0 : Below w.heap.size w (w.alloc (.cells #[.slice aod ms.length capd, .int .i64 most, .int .i64 room] 32)) := (Below.refl _ w).alloc (Nat.le_refl _) _
  have HG := Lib.hid (rget_any _ ms most room i _ (rdm_keep hv hb0) hl)
  have HB0 := Lib.hid hb0
  clear hv hb0
  go_enter Tryz.func77, Tryz.ntmps77
  go_wp2_with fail
  refine HG.out.mono ?_
  rintro e w1 ⟨v1, rfl, hr1, hb1⟩
  rw [getL_node] at hr1 ⊢
  have HB1 := Lib.hid (ret_tr HB0.out hb1)
  obtain ⟨ao1, cp1, e1, _, _⟩ := Rd.form hr1
  have e1' : v1 = .slice ao1 (nodeL (pl ms) i).names.length cp1 := e1
  subst e1'
  clear hr1 hb1 e1
  obtain ⟨n, hn⟩ : ∃ n, n = nodeL (pl ms) i := ⟨_, rfl⟩
  rw [← hn]
  have HN := Lib.hid hn
  clear hn
  cases hg : gotB (pl ms) i with
  | false =>
    have HE : Hid (dirE (pl ms) i = 2) := Lib.hid (by unfold dirE; rw [hg]; rfl)
    clear hg
    go_wp2_with fail
    refine post_fresh1 ?_
    intro W5 hb5 hn5 hs5
    go_ret
    exact ⟨ret_int HE.out.symm, ret_tr HB1.out hb5⟩
  | true =>
    by_cases hk : n.kind = 2
    · have hI : (n.kind != 2) = false := by simpa using hk
      have HE : Hid (dirE (pl ms) i = 0) := Lib.hid (by unfold dirE; rw [if_pos hg, ← HN.out, if_pos hk])
      clear hg hk
      go_wp2_with fail
      refine post_fresh1 ?_
      intro W5 hb5 hn5 hs5
      go_ret
      exact ⟨ret_int HE.out.symm, ret_tr HB1.out hb5⟩
    · have hI : (n.kind != 2) = true := by simpa using hk
      have HE : Hid (dirE (pl ms) i = 4) := Lib.hid (by unfold dirE; rw [if_pos hg, ← HN.out, if_neg hk])
      clear hg hk
      go_wp2_with fail
      refine post_fresh1 ?_
      intro W5 hb5 hn5 hs5
      go_ret
      exact ⟨ret_int HE.out.symm, ret_tr HB1.out hb5⟩
set_option maxRecDepth 100000 in
set_option maxHeartbeats 4000000 in
theorem rlook_any (v : Value) (ms : List NodeM) (most room i : Int) (p : Str) (w : World) (hv : RdM w.heap.size v ms w) (hd : DskOk ms) :
    Calls Tryz.prog 79 #[.agg #[v, .int .i64 most, .int .i64 room], .int .i64 i, .string (bs p)] w fun e w' => NumIs (lookL (pl ms) i p) e w w' := by
  obtain ⟨aod, capd, rfl, _, _⟩ := rdm_form hv
  have hb0 : Below w.heap.size w (w.alloc (.cells #[.slice aod ms.length capd, .int .i64 most, .int .i64 room] 32)) := (Below.refl _ w).alloc (Nat.le_refl _) _
  have HG := Lib.hid (rget_any _ ms most room i _ (rdm_keep hv hb0) hd.len)
  have HB0 := Lib.hid hb0
  have hnl := hd.names i
  clear hv hb0
  go_enter Tryz.func79, Tryz.ntmps79
  go_wp2_with fail
  refine HG.out.mono ?_
  rintro e w1 ⟨v1, rfl, hr1, hb1⟩
  rw [getL_node] at hr1 ⊢
  have HB1 := Lib.hid (ret_tr HB0.out hb1)
  obtain ⟨ao1, cp1, e1, _, _⟩ := Rd.form hr1
  have e1' : v1 = .slice ao1 (nodeL (pl ms) i).names.length cp1 := e1
  subst e1'
  obtain ⟨n, hn⟩ : ∃ n, n = nodeL (pl ms) i := ⟨_, rfl⟩
  rw [← hn] at hr1 hnl ⊢
  have HN := Lib.hid hn
  have HR1 : Hid (Rd w1.heap.size 2 (.slice ao1 n.names.length cp1) n.names.length (ents n.names) w1) := Lib.hid hr1
  clear hr1 hb1 e1 hn
  have hlk : lookL (pl ms) i p = lookN i n p := by rw [HN.out]; rfl
  by_cases h1 : p = [46]
  · have hI : (p == [46]) = true := by simpa using h1
    have HE : Hid (lookL (pl ms) i p = i) := Lib.hid (by rw [hlk]; unfold lookN; rw [if_pos h1])
    clear h1 hlk
    go_wp2_with fail
    refine post_fresh1 ?_
    intro W5 hb5 hn5 hs5
    go_ret
    exact ⟨ret_int HE.out.symm, ret_tr HB1.out hb5⟩
  have hI1 : (p == [46]) = false := by simpa using h1
  by_cases h2 : p = [46, 46]
  · have hI : (p == [46, 46]) = true := by simpa using h2
    have HE : Hid (lookL (pl ms) i p = n.up) := Lib.hid (by rw [hlk]; unfold lookN; rw [if_neg h1, if_pos h2])
    clear h1 h2 hlk
    go_wp2_with fail
    refine post_fresh1 ?_
    intro W5 hb5 hn5 hs5
    go_ret
    exact ⟨ret_int HE.out.symm, ret_tr HB1.out hb5⟩
  have hI2 : (p == [46, 46]) = false := by simpa using h2
  have HE : Hid (lookL (pl ms) i p = (findL n.names p).getD (-1)) := Lib.hid (by rw [hlk]; unfold lookN; rw [if_neg h1, if_neg h2])
  clear h1 h2 hlk
  go_wp2_with fail
  refine calls_fresh1 ?_
  intro W5 hb5 hn5 hs5
  refine (rfind_any _ _ n.names p _ (rd_keep HR1.out hb5) hnl).mono ?_
  rintro e w6 ⟨rfl, rfl⟩
  go_wp2_with fail
  go_ret
  exact ⟨ret_int (by rw [HE.out]; rfl), ret_tr HB1.out hb5⟩
end Go.Proofs.YtpmhmippoefcfaaGreatDoor
namespace Go.Proofs.YtpmhmippoefcfaaGreatDoor
open Go.RowKit Go.Shelf
attribute [local go_sem ↓] Go.wp_at_zero Go.wp_at_succ
/-- Its contract, of whatever reads as these nodes. -/
theorem its_g (l : List NodeL) (a b : Int) (hl : l.length ≤ 10000) (hnl : ∀ n ∈ l, n.names.length ≤ 10000) (v : Value) (W : World) (hg : GivesN l v W) :
    Calls Tryz.prog 13 #[.agg #[v, .int .i64 a, .int .i64 b]] W fun e w' => ∃ v', e = .returned (.agg #[v', .int .i64 a, .int .i64 b]) ∧ GivesN l v' w' ∧ Below W.heap.size W w' := by
  obtain ⟨m, rfl, h⟩ := hg
  exact its_any v m a b W h (by rw [← pl_len]; exact hl) hnl
end Go.Proofs.YtpmhmippoefcfaaGreatDoor
namespace Go.Proofs.YtpmhmippoefcfaaGreatDoor
theorem nd_app (l : List NodeL) (n : NodeL) (j : Nat) : nd (l ++ [n]) j = if j = l.length then n else nd l j := by
  by_cases h : j < l.length
  · rw [if_neg (by omega), nd_lt (l := l ++ [n]) (by rw [List.length_append]; omega), nd_lt h, List.getElem_append_left]
  · by_cases e : j = l.length
    · subst e; rw [if_pos rfl, nd_lt (l := l ++ [n]) (by simp)]; simp
    · rw [if_neg e, nd_ge (by rw [List.length_append, List.length_singleton]; omega), nd_ge (by omega)]
theorem cnt_pos {l : List NodeL} {j : Int} (h : 0 < cnt l j) : ∃ k, 0 < cntN (nd l k).names j := by
  induction l with
  | nil => exact absurd h (Nat.lt_irrefl 0)
  | cons a l ih =>
    have e : cnt (a :: l) j = cntN a.names j + cnt l j := by simp [cnt]
    by_cases h0 : 0 < cntN a.names j
    · exact ⟨0, h0⟩
    · obtain ⟨k, hk⟩ := ih (by omega)
      exact ⟨k + 1, hk⟩
end Go.Proofs.YtpmhmippoefcfaaGreatDoor
namespace Go.Proofs.YtpmhmippoefcfaaGreatDoor
def linkN (text : Nm) : NodeL := ⟨3, 63, 0, 0, 0, 0, text, []⟩
def symlinkL (l : List NodeL) (most room who fr : Int) (text path : Str) : ChgL :=
  if text = [] then (l, 2) else if 100 < text.length then (l, 9)
  else if (walkL l who fr path false).2 ≠ 0 then (l, (walkL l who fr path false).2)
  else if (walkL l who fr path false).1.slash = true ∧ (walkL l who fr path false).1.ino < 0 then (l, 4)
  else ((enterL l most room who (walkL l who fr path false).1 (linkN text)).1, (enterL l most room who (walkL l who fr path false).1 (linkN text)).2.2)
end Go.Proofs.YtpmhmippoefcfaaGreatDoor
