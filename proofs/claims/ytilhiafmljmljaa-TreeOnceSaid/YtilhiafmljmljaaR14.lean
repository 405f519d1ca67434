import Derived.Test.YtilhiafmljmljaaR13
import Derived.Laws.ResultCell
import Derived.Test.YtilhiafmljmljaaR12
import Derived.Lib.TrimByte
import Derived.Lib.Bytealg
import Derived.Test.YtilhiafmljmljaaR11
import Derived.Test.YtilhiafmljmljaaShelf
import Derived.Lib.Strings
import Derived.Laws.OwnMore
import Derived.Laws.BitsLemmas
import Derived.Test.YtilhiafmljmljaaProg
import Derived.Lib.QuietBelow
import Derived.Deep.DrawnRows
import Derived.Laws.Cover1
import Derived.WalkMore
import Derived.Shelf.Spec.SlicesGrow
import Derived.StillTailTactics
import Derived.LaidEql
import Derived.Stop.Asserts
import Derived.RowKitTokens
import Derived.Deep.RegionHeld3
import Derived.Deep.RegionLaw
import Derived.Handy
import Derived.Deep.LoopGhost
import Derived.Laws.IdiomCopy
import Derived.Lib.SliceRun
import Derived.Deep.DeepCutAuto
import Derived.Deep.MidRow
import Derived.Deep.OwnRows
import Derived.Laws.CopyRow
import Derived.Laws.BytesString
import Derived.Lib.ConvBytes
import Derived.Lib.SlBuf
namespace Go.Proofs.Ytilhiafmljmljaa
open Go.RowKit Go.Shelf
attribute [local go_sem ↓] Go.wp_at_zero Go.wp_at_succ
theorem results_ct {P : Program} {fn : Func} {p u : Tmp} {ty : TypeId} (h : fn.results = #[.cell p ty, .tmp u]) (tmps : Array Value) (w : World) (g : Nat) (t : TypeId) (cs : Array Value) (fr : Nat × Nat) (d : TypeDesc)
    (hp : tmps.getD p undef = .pointer (some ⟨g, 0, none⟩)) (hg : w.heap[g]? = some (.cells cs t fr))
    (hu : P.underlying ty = some d) (hd : (match d with | .struct _ | .array _ _ => true | _ => false) = true) (hi : (P.info? ty).map (·.size) = some cs.size) :
    (results fn tmps).run P w = .ok (.tuple #[.agg cs, tmps.getD u undef]) w := by
  rw [results_cell_tmp h, hp]
  simp [asAddr, run_loadVar_row w g t ty cs fr d hg hu hd hi, Result.andThen]
def getL (l : List NodeL) (i : Int) : NodeL := if gotB l i then atI l i else zeroN
def GetIs (l : List NodeL) (i : Int) (e : Ending) (W W' : World) : Prop :=
  ∃ v, e = .returned (.tuple #[nval (getL l i) v, .bool (gotB l i)]) ∧ RdNm W'.heap.size (getL l i, v) W' ∧ Below W.heap.size W W'
theorem get_no {l : List NodeL} {i : Int} {w W : World} (h : gotB l i = false) (hb : Below w.heap.size w W) : GetIs l i (.returned (.tuple #[.agg #[.int .i64 0, .int .i64 0, .int .i64 0, .int .i64 0, .int .i64 0, .int .i64 0, .string ⟨#[]⟩, .slice none 0 0], .bool false])) w W :=
  ⟨.slice none 0 0, by unfold getL; rw [h]; rfl, by unfold getL; rw [h]; exact Rd.none0 _ _ _, hb⟩
def GetNew (l : List NodeL) (i : Int) (e : Ending) (W W' : World) : Prop :=
  ∃ v, e = .returned (.tuple #[nval (getL l i) v, .bool (gotB l i)]) ∧ RdNm W'.heap.size (getL l i, v) W' ∧ Below W.heap.size W W' ∧ NewV W.heap.size v
theorem getn_no {l : List NodeL} {i : Int} {w W : World} (h : gotB l i = false) (hb : Below w.heap.size w W) : GetNew l i (.returned (.tuple #[.agg #[.int .i64 0, .int .i64 0, .int .i64 0, .int .i64 0, .int .i64 0, .int .i64 0, .string ⟨#[]⟩, .slice none 0 0], .bool false])) w W :=
  ⟨.slice none 0 0, by unfold getL; rw [h]; rfl, by unfold getL; rw [h]; exact Rd.none0 _ _ _, hb, NewV.none0 _⟩
set_option maxRecDepth 100000 in
set_option maxHeartbeats 2000000 in
theorem get_new (v : Value) (ms : List NodeM) (most room i : Int) (w : World) (hv : RdM w.heap.size v ms w) (hl : ms.length ≤ 10000) (hnl : ∀ n ∈ pl ms, n.names.length ≤ 10000) :
    Calls Try.prog 40 #[.agg #[v, .int .i64 most, .int .i64 room], .int .i64 i] w fun e w' => GetNew (pl ms) i e w w' := by
  obtain ⟨ao, cap, rfl, _, _⟩ := rdm_form hv
  have HV := Lib.hid hv
  clear hv
  have hret : ∀ (W : World) (cs : Array Value) (fr), W.heap[w.heap.size + 1]? = some (.cells cs 59 fr) → cs.size = 8 → ∀ tmps : Array Value, tmps.getD 4 undef = .pointer (some ⟨w.heap.size + 1, 0, none⟩) → (results Try.f40 tmps).run Try.prog W = .ok (.tuple #[.agg cs, tmps.getD 5 undef]) W := fun W cs fr h hs tmps ht =>
    results_ct (p := 4) (u := 5) (ty := 59) rfl tmps W (w.heap.size + 1) _ cs fr _ ht h Try.underlying59 rfl (by rw [hs]; kernel_rfl)
  cases hi : inL (pl ms) i with
  | false =>
    have HI := Lib.hid hi
    have HG : Hid (gotB (pl ms) i = false) := Lib.hid (by unfold gotB; rw [hi]; rfl)
    clear hi
    go_enter Try.func40, Try.ntmps40
    go_wp2_with fail
    refine fresh2 (P := fun W => Calls _ _ _ W _) ?_
    intro W0 hb0 hP hQ hs0
    refine (has_any (pl ms) ao ms.length cap most room i _ (pl_len ms).symm (by omega)).mono ?_
    rintro e W1 ⟨rfl, hb1⟩
    rw [HI.out]
    have hQ1 := (hb1.block _ (by omega)).trans hQ
    have hB1 := ret_tr hb0 hb1
    obtain ⟨q0, q1, q2, q3, q4, q5, q6, q7⟩ := cells8 hQ1
    have rf := fun j => Lib.frozen_of_heap hQ1 j
    clear hP hQ hb0 hb1
    go_wp2_with fail
    refine sets8 (P := fun W => bodyPost _ _ _ _ _ W) hQ1 ?_
    intro W3 hb3 hg3 hs3 hR3
    refine bodyPost_ret (hret _ _ _ hR3 rfl _ rfl) rfl ?_
    exact getn_no HG.out (hB1.trans (hb3.mono (by omega)))
  | true =>
    obtain ⟨k, rfl, hk⟩ := in_nat hi
    have hat := at_nat (pl ms) k hk
    rw [pl_len] at hk
    have HI := Lib.hid hi
    have HA := Lib.hid hat
    have k0 : (0 : Int) ≤ (k : Int) := by omega
    have k1 : (k : Int) < (ms.length : Int) := by omega
    clear hat
    go_enter Try.func40, Try.ntmps40
    go_wp2_with fail
    refine fresh2 (P := fun W => Calls _ _ _ W _) ?_
    intro W0 hb0 hP hQ hs0
    refine (has_any (pl ms) ao ms.length cap most room k _ (pl_len ms).symm (by omega)).mono ?_
    rintro e W1 ⟨rfl, hb1⟩
    rw [HI.out]
    have hP1 := (hb1.block _ (by omega)).trans hP
    have hQ1 := (hb1.block _ (by omega)).trans hQ
    have hB1 := ret_tr hb0 hb1
    have hs1 := hb1.size
    have p0 := (cells3 hP1).1
    clear hP hQ hb0 hb1
    obtain ⟨b, off, n, aon, capn, rfl, hb, hn, -, hrn, c0, c1, c2, c3, c4, c5, c6, c7⟩ := node_at (HV.out.below hB1) k hk
    rw [hn] at HA
    have hnn : n.names.length ≤ 10000 := hnl n (by rw [← hn]; exact List.getElem_mem _)
    have HR1 : Hid (RdNm W1.heap.size (n, .slice aon n.names.length capn) W1) := Lib.hid (Rd.mono hrn hB1.size)
    clear hn hrn
    by_cases h0 : n.kind = 0
    · have hd : decide (n.kind = 0) = true := by simpa using h0
      have HG : Hid (gotB (pl ms) k = false) := Lib.hid (by unfold gotB; rw [HA.out, hd, Bool.not_true, Bool.and_false])
      clear h0 hi
      go_wp2_with fail
      refine (free_any n _ _).mono ?_
      rintro e W2 ⟨rfl, hb2⟩
      rw [hd]
      have hQ2 := (hb2.block _ (by omega)).trans hQ1
      have hB2 := ret_tr hB1 hb2
      have hs2 := hb2.size
      clear hP1 hQ1 hB1 hb2 c0 c1 c2 c3 c4 c5 c6 c7 p0
      obtain ⟨q0, q1, q2, q3, q4, q5, q6, q7⟩ := cells8 hQ2
      have rf := fun j => Lib.frozen_of_heap hQ2 j
      go_wp2_with fail
      refine sets8 (P := fun W => bodyPost _ _ _ _ _ W) hQ2 ?_
      intro W3 hb3 hg3 hs3 hR3
      refine bodyPost_ret (hret _ _ _ hR3 rfl _ rfl) rfl ?_
      exact getn_no HG.out (hB2.trans (hb3.mono (by omega)))
    · have hd : decide (n.kind = 0) = false := by simpa using h0
      have HG : Hid (gotB (pl ms) k = true) := Lib.hid (by unfold gotB; rw [HA.out, hd, hi]; rfl)
      clear h0 hi
      go_wp2_with fail
      refine (free_any n _ _).mono ?_
      rintro e W2 ⟨rfl, hb2⟩
      rw [hd]
      have hP2 := (hb2.block _ (by omega)).trans hP1
      have hQ2 := (hb2.block _ (by omega)).trans hQ1
      have hB2 := ret_tr hB1 hb2
      have hs2 := hb2.size
      have HR2 := Lib.hid (rdnm_keep HR1.out hb2)
      have p2 := (cells3 hP2).1
      have bb : b < W1.heap.size := by omega
      have d0 := (hb2.cell (p := ⟨b, off + k * 8, none⟩) bb).trans c0
      have d1 := (hb2.cell (p := ⟨b, off + k * 8 + 1, none⟩) bb).trans c1
      have d2 := (hb2.cell (p := ⟨b, off + k * 8 + 2, none⟩) bb).trans c2
      have d3 := (hb2.cell (p := ⟨b, off + k * 8 + 3, none⟩) bb).trans c3
      have d4 := (hb2.cell (p := ⟨b, off + k * 8 + 4, none⟩) bb).trans c4
      have d5 := (hb2.cell (p := ⟨b, off + k * 8 + 5, none⟩) bb).trans c5
      have d6 := (hb2.cell (p := ⟨b, off + k * 8 + 6, none⟩) bb).trans c6
      have d7 := (hb2.cell (p := ⟨b, off + k * 8 + 7, none⟩) bb).trans c7
      clear hP1 hQ1 hB1 hb2 c0 c1 c2 c3 c4 c5 c6 c7 p0
      go_wp2_with fail
      refine (own_any n _ _ HR2.out hnn).mono ?_
      rintro e W3 ⟨v', rfl, hoN, hbN⟩
      have hQ3 := (hbN.block _ (by omega)).trans hQ2
      have hB3 := ret_tr hB2 hbN
      have hs3 := hbN.size
      clear hP2 hQ2 hbN p2 d0 d1 d2 d3 d4 d5 d6 d7
      obtain ⟨q0, q1, q2, q3, q4, q5, q6, q7⟩ := cells8 hQ3
      have rf := fun j => Lib.frozen_of_heap hQ3 j
      obtain ⟨aov, capv, rfl⟩ := own_form hoN
      go_wp2_with fail
      refine sets8 (P := fun W => bodyPost _ _ _ _ _ W) hQ3 ?_
      intro W4 hb4 hg4 hs4 hR4
      refine bodyPost_ret (hret _ _ _ hR4 rfl _ rfl) rfl ?_
      have hget : getL (pl ms) k = n := by unfold getL; rw [HG.out, HA.out]; rfl
      refine ⟨.slice aov n.names.length capv, by rw [hget, HG.out]; rfl, ?_, hB3.trans (hb4.mono (by omega)), (NewV.own hoN).mono hB2.size⟩
      rw [hget]
      exact Rd.own (ownsRow_other hoN fun g hg => hg4 g (by omega)) (Nat.le_refl _)
end Go.Proofs.Ytilhiafmljmljaa
namespace Go.Proofs.Ytilhiafmljmljaa
open Go.RowKit Go.Shelf
section
variable {P : Program} {fn : Func} {Q : Ending → World → Prop} {x : Exit} {a : Act} {w : World} {A B : Obj}
theorem calls_fresh1 {f : FuncId} {args : Array Value} (h : ∀ W, Below w.heap.size w W → W.heap[w.heap.size]? = some A → W.heap.size = w.heap.size + 1 → Calls P f args W Q) : Calls P f args (w.alloc A) Q := fresh1 (P := fun W => Calls P f args W Q) h
theorem code_fresh1 {c : Code} {K : Exit → Act → World → Prop} (h : ∀ W, Below w.heap.size w W → W.heap[w.heap.size]? = some A → W.heap.size = w.heap.size + 1 → c.wp P K a W) : c.wp P K a (w.alloc A) := fresh1 (P := fun W => c.wp P K a W) h
variable {b : Nat} {u0 u1 u2 u3 u4 u5 u6 u7 r0 r1 r2 r3 r4 r5 r6 r7 : Value} {t : TypeId}
end
end Go.Proofs.Ytilhiafmljmljaa
namespace Go.Proofs.Ytilhiafmljmljaa
def sp : Nat → Option Nat → List UInt8 → List (Nat × Nat)
  | _, none, [] => []
  | i, some s, [] => [(s, i)]
  | i, none, c :: r => if c = 47 then sp (i + 1) none r else sp (i + 1) (some i) r
  | i, some s, c :: r => if c = 47 then (s, i) :: sp (i + 1) none r else sp (i + 1) (some s) r
def spans (l : List UInt8) : List (Nat × Nat) := sp 0 none l
def cutS (l : List UInt8) (p : Nat × Nat) : List UInt8 := (l.take p.2).drop p.1
def parts (l : List UInt8) : List (List UInt8) := (spans l).map (cutS l)
end Go.Proofs.Ytilhiafmljmljaa
namespace Go.Proofs.Ytilhiafmljmljaa
open Go.RowKit Go.Shelf
attribute [local go_sem] Oper.semAt_some wide_fn wide_depth
end Go.Proofs.Ytilhiafmljmljaa
namespace Go.Proofs.Ytilhiafmljmljaa
open Go.RowKit Go.Shelf
attribute [local go_sem] Oper.semAt_some wide_fn wide_depth
end Go.Proofs.Ytilhiafmljmljaa
namespace Go.Proofs.Ytilhiafmljmljaa
open Go.RowKit Go.Shelf
attribute [local go_sem] Oper.semAt_some wide_fn wide_depth
end Go.Proofs.Ytilhiafmljmljaa
namespace Go.Proofs.Ytilhiafmljmljaa
open Go.RowKit Go.Shelf
attribute [local go_sem] Oper.semAt_some wide_fn wide_depth
def checkE (l : List UInt8) : Int :=
  if l = [] then 2 else if 100 < l.length then 9 else if (0 : UInt8) ∈ l then 1 else if (spans l).any (fun p => decide (12 < p.2 - p.1)) then 9 else 0
end Go.Proofs.Ytilhiafmljmljaa
namespace Go.Proofs.Ytilhiafmljmljaa
open Go.RowKit Go.Shelf
attribute [local go_sem] Oper.semAt_some wide_fn wide_depth
end Go.Proofs.Ytilhiafmljmljaa
namespace Go.Proofs.Ytilhiafmljmljaa
open Go.RowKit Go.Shelf
def joinL (a b : List UInt8) : List UInt8 :=
  if a = [] ∨ Lib.hasPrefix b [47] = true then b else if b = [] then a else if Lib.hasSuffix a [47] = true then a ++ b else a ++ [47] ++ b
theorem ret_bytes {t : ByteArray} {l : List UInt8} (h : t.data.toList = l) : Ending.returned (.string t) = .returned (.string ⟨l.toArray⟩) := by subst h; simp
theorem isEmpty_iff (s : ByteArray) (b : Bool) (h : s.toList.isEmpty = b) : (s.data.toList = []) ↔ b = true := by
  rw [Lib.toList_data] at h; rw [← h]; simp
theorem join_1 {s t : ByteArray} (h : s.toList = []) : t.data.toList = joinL s.data.toList t.data.toList := by
  unfold joinL; rw [if_pos (.inl (by rw [← Lib.toList_data]; exact h))]
theorem join_2 {s t : ByteArray} (h : s.toList.isEmpty = true ∨ Lib.hasPrefix t.data.toList [47] = true) : t.data.toList = joinL s.data.toList t.data.toList := by
  unfold joinL; rw [if_pos (h.imp (fun h => (isEmpty_iff s _ h).2 rfl) id)]
theorem join_n {s t : ByteArray} (h : s.toList.isEmpty = false ∧ Lib.hasPrefix t.data.toList [47] = false) : ¬ (s.data.toList = [] ∨ Lib.hasPrefix t.data.toList [47] = true) := by
  rintro (h1 | h1)
  · cases (isEmpty_iff s _ h.1).1 h1
  · rw [h.2] at h1; cases h1
theorem join_3 {s t : ByteArray} (h : s.toList.isEmpty = false ∧ Lib.hasPrefix t.data.toList [47] = false) (h2 : t.toList.isEmpty = true) : s.data.toList = joinL s.data.toList t.data.toList := by
  unfold joinL; rw [if_neg (join_n h), if_pos ((isEmpty_iff t _ h2).2 rfl)]
theorem join_4 {s t : ByteArray} (h : s.toList.isEmpty = false ∧ Lib.hasPrefix t.data.toList [47] = false) (h2 : t.toList.isEmpty = false) (h3 : Lib.hasSuffix s.data.toList [47] = true) : (s ++ t).data.toList = joinL s.data.toList t.data.toList := by
  unfold joinL; rw [if_neg (join_n h), if_neg (fun e => by cases (isEmpty_iff t _ h2).1 e), if_pos h3]; simp
theorem join_5 {s t : ByteArray} (h : s.toList.isEmpty = false ∧ Lib.hasPrefix t.data.toList [47] = false) (h2 : t.toList.isEmpty = false) (h3 : Lib.hasSuffix s.data.toList [47] = false) : (s ++ ⟨#[47]⟩ ++ t).data.toList = joinL s.data.toList t.data.toList := by
  unfold joinL; rw [if_neg (join_n h), if_neg (fun e => by cases (isEmpty_iff t _ h2).1 e), if_neg (by rw [h3]; decide)]; simp
set_option maxHeartbeats 400000 in
theorem join_any (s t : ByteArray) (hs : s.size ≤ 65000) (ht : t.size ≤ 65000) (w : World) :
    Calls Try.prog 42 #[.string s, .string t] w fun e W' => e = .returned (.string ⟨(joinL s.data.toList t.data.toList).toArray⟩) ∧ W' = w := by
  go_enter Try.func42, Try.ntmps42
  go_wp2_with (first | (go_at_call 49; refine (Try.strings_HasSuffix _ _ _ (by omega)).mono ?_; rintro e w' ⟨rfl, rfl⟩) | (go_at_call 48; refine (Try.strings_HasPrefix _ _ _).mono ?_; rintro e w' ⟨rfl, rfl⟩))
  all_goals go_ret
  · exact ⟨ret_bytes (join_1 ‹_›), rfl⟩
  · exact ⟨ret_bytes (join_2 ‹_›), rfl⟩
  · exact ⟨ret_bytes (join_3 ‹_› ‹_›), rfl⟩
  · exact ⟨ret_bytes (join_4 ‹_› ‹_› ‹_›), rfl⟩
  · exact ⟨ret_bytes (join_5 ‹_› ‹_› ‹_›), rfl⟩
end Go.Proofs.Ytilhiafmljmljaa
namespace Go.Proofs.Ytilhiafmljmljaa
end Go.Proofs.Ytilhiafmljmljaa
namespace Go.Proofs.Ytilhiafmljmljaa
open Go.RowKit Go.Shelf
end Go.Proofs.Ytilhiafmljmljaa
namespace Go.Proofs.Ytilhiafmljmljaa
open Go.RowKit Go.Shelf
end Go.Proofs.Ytilhiafmljmljaa
namespace Go.Proofs.Ytilhiafmljmljaa
open Go.RowKit Go.Shelf
end Go.Proofs.Ytilhiafmljmljaa
namespace Go.Proofs.Ytilhiafmljmljaa
end Go.Proofs.Ytilhiafmljmljaa
namespace Go.Proofs.Ytilhiafmljmljaa
open Go.RowKit Go.Shelf
end Go.Proofs.Ytilhiafmljmljaa
namespace Go.Proofs.Ytilhiafmljmljaa
open Go.RowKit Go.Shelf
end Go.Proofs.Ytilhiafmljmljaa
namespace Go.Proofs.Ytilhiafmljmljaa
open Go.RowKit Go.Shelf
end Go.Proofs.Ytilhiafmljmljaa
namespace Go.Proofs.Ytilhiafmljmljaa
end Go.Proofs.Ytilhiafmljmljaa
namespace Go.Proofs.Ytilhiafmljmljaa
open Go.RowKit Go.Shelf
end Go.Proofs.Ytilhiafmljmljaa
namespace Go.Proofs.Ytilhiafmljmljaa
open Go
abbrev V (n : Int) : BitVec 64 := BitVec.ofInt 64 n
def subB (want rights : Int) : Bool := (V want &&& 7#64 &&& ~~~ (V rights &&& 7#64)) == 0#64
def mayB (m owner who want : Int) : Bool := if who = 0 then true else subB want (if owner = who then m / 8 else m)
end Go.Proofs.Ytilhiafmljmljaa
namespace Go.Proofs.Ytilhiafmljmljaa
open Go.RowKit
end Go.Proofs.Ytilhiafmljmljaa
namespace Go.Proofs.Ytilhiafmljmljaa
structure SpotL where
  dir : Int
  name : Str
  ino : Int
  slash : Bool
def zeroS : SpotL := ⟨0, [], 0, false⟩
theorem spot_ext {a b : SpotL} (h0 : a.dir = b.dir) (h1 : a.name = b.name) (h2 : a.ino = b.ino) (h3 : a.slash = b.slash) : a = b := by
  cases a; cases b; simp_all
instance : DecidableEq SpotL := fun a b =>
  decidable_of_iff (a.dir = b.dir ∧ a.name = b.name ∧ a.ino = b.ino ∧ a.slash = b.slash) ⟨fun ⟨h0, h1, h2, h3⟩ => spot_ext h0 h1 h2 h3, fun h => by subst h; simp⟩
abbrev ResL := SpotL × Int
def nodeL (l : List NodeL) (i : Int) : NodeL := if gotB l i = true then atI l i else zeroN
def dirE (l : List NodeL) (i : Int) : Int := if gotB l i = true then if (nodeL l i).kind = 2 then 0 else 4 else 2
def lookL (l : List NodeL) (i : Int) (p : Str) : Int := if p = [46] then i else if p = [46, 46] then (nodeL l i).up else (findL (nodeL l i).names p).getD (-1)
def firstAt (i : Int) (p : Str) : Int := if Lib.hasPrefix p [47] = true then 0 else i
def mayAt (l : List NodeL) (who i : Int) : Bool := mayB (nodeL l i).mode (nodeL l i).owner who 1
def goW (l : List NodeL) (who : Int) (follow slash : Bool) (i : Int) (ps : List Str) (hops : Nat) : ResL :=
  match ps with
  | [] => (⟨0, [], 0, slash⟩, 0)
  | p :: rest =>
    if dirE l i ≠ 0 then (zeroS, dirE l i)
    else if mayAt l who i = false then (zeroS, 7)
    else if lookL l i p < 0 then if rest = [] then (⟨i, p, -1, slash⟩, 0) else (zeroS, 2)
    else if (nodeL l (lookL l i p)).kind = 3 ∧ (rest ≠ [] ∨ follow = true ∨ slash = true) then
      if 8 ≤ hops then (zeroS, 8)
      else if checkE (nodeL l (lookL l i p)).data ≠ 0 then (zeroS, checkE (nodeL l (lookL l i p)).data)
      else goW l who follow slash (firstAt i (nodeL l (lookL l i p)).data) (parts (nodeL l (lookL l i p)).data ++ rest) (hops + 1)
    else if rest = [] then if slash = true ∧ (nodeL l (lookL l i p)).kind ≠ 2 then (zeroS, 4) else (⟨i, p, lookL l i p, slash⟩, 0)
    else goW l who follow slash (lookL l i p) rest hops
termination_by (9 - hops, ps.length)
section
variable {l : List NodeL} {who : Int} {follow slash : Bool} {i : Int} {p : Str} {rest : List Str} {hops : Nat}
theorem go_loop (h : dirE l i = 0) (h2 : mayAt l who i = true) (h3 : ¬ lookL l i p < 0) (h4 : (nodeL l (lookL l i p)).kind = 3) (h5 : rest ≠ [] ∨ follow = true ∨ slash = true) (h6 : 8 ≤ hops) :
    goW l who follow slash i (p :: rest) hops = (zeroS, 8) := by
  rw [goW, if_neg (by simp [h]), if_neg (by simp [h2]), if_neg h3, if_pos ⟨h4, h5⟩, if_pos h6]
end
def RightP (l : List NodeL) : Prop := ∃ most room, rightR l most room = true
theorem right_ok {l : List NodeL} (h : RightP l) {i : Int} (hi : gotB l i = true) : ∃ k : Nat, i = k ∧ ∃ hk : k < l.length, nodeL l i = l[k] ∧ l[k].kind ≠ 0 ∧ okR l k l[k] = true := by
  obtain ⟨most, room, h⟩ := h
  have hg := hi
  unfold gotB at hi
  rw [Bool.and_eq_true] at hi
  obtain ⟨k, rfl, hk⟩ := in_nat hi.1
  have hat := at_nat l k hk
  refine ⟨k, rfl, hk, ?_, ?_, ?_⟩
  · unfold nodeL; rw [if_pos hg, hat]
  · have := hi.2; rw [hat] at this; simpa using this
  · unfold rightR at h
    rw [Bool.and_eq_true] at h
    have := (range_all _ _).1 h.2 k hk
    rw [hat] at this
    exact this
theorem got_le {l : List NodeL} {i : Int} (h : gotB l i = true) : 0 ≤ i ∧ i < l.length := by
  unfold gotB inL at h
  simp only [Bool.and_eq_true, decide_eq_true_iff] at h
  exact h.1
theorem rootR_up {l : List NodeL} {f : Nat} {j : Int} (h : rootR l (f + 1) j = true) : j = 0 ∨ (gotB l j = true ∧ (atI l j).kind = 2 ∧ rootR l f (atI l j).up = true) := by
  unfold rootR at h
  split at h
  · exact .inl ‹_›
  · split at h
    · rename_i h1
      simp only [Bool.and_eq_true, decide_eq_true_iff] at h1
      exact .inr ⟨h1.1, h1.2, h⟩
    · cases h
end Go.Proofs.Ytilhiafmljmljaa
namespace Go.Proofs.Ytilhiafmljmljaa
open Go.RowKit Go.Shelf
attribute [local go_sem ↓] Go.wp_at_zero Go.wp_at_succ
structure DskOk (ms : List NodeM) : Prop where
  len : ms.length ≤ 10000
  nms : ∀ n ∈ pl ms, n.names.length ≤ 10000
  right : RightP (pl ms)
theorem DskOk.names {ms : List NodeM} (hd : DskOk ms) (i : Int) : (nodeL (pl ms) i).names.length ≤ 10000 := by
  cases hg : gotB (pl ms) i with
  | false => unfold nodeL; rw [hg]; exact Nat.zero_le _
  | true =>
    obtain ⟨k, rfl, hlt, hn, _, _⟩ := right_ok hd.right hg
    rw [hn]; exact hd.nms _ (List.getElem_mem hlt)
end Go.Proofs.Ytilhiafmljmljaa
namespace Go.Proofs.Ytilhiafmljmljaa
open Go.RowKit Go.Shelf
attribute [local go_sem ↓] Go.wp_at_zero Go.wp_at_succ
structure DskW (ms : List NodeM) : Prop where
  ok : DskOk ms
  dat : ∀ n ∈ pl ms, n.data.length ≤ 10000
theorem DskW.len {ms : List NodeM} (hd : DskW ms) (i : Int) : (nodeL (pl ms) i).data.length ≤ 10000 := by
  cases hg : gotB (pl ms) i with
  | false => unfold nodeL; rw [hg]; exact Nat.zero_le _
  | true =>
    obtain ⟨k, rfl, hlt, hn, _, _⟩ := right_ok hd.ok.right hg
    rw [hn]; exact hd.dat _ (List.getElem_mem hlt)
end Go.Proofs.Ytilhiafmljmljaa
namespace Go.Proofs.Ytilhiafmljmljaa
open Go.RowKit Go.Shelf
theorem code_fresh2 {P : Program} {a : Act} {w : World} {A B : Obj} {c : Code} {K : Exit → Act → World → Prop} (h : ∀ W, Below w.heap.size w W → W.heap[w.heap.size]? = some A → W.heap[w.heap.size + 1]? = some B → W.heap.size = w.heap.size + 2 → c.wp P K a W) : c.wp P K a ((w.alloc A).alloc B) := fresh2 (P := fun W => c.wp P K a W) h
def Old (X : Nat → Prop) (W : World) : Prop := ∀ g, X g → g < W.heap.size
theorem Old.keep {X : Nat → Prop} {W W' : World} (h : Old X W) (hb : W.heap.size ≤ W'.heap.size) : Old X W' := fun g hg => Nat.lt_of_lt_of_le (h g hg) hb
abbrev Bl := Nat × Array Value × TypeId
def Xo (X : Nat → Prop) (L : List Nat) : Nat → Prop := fun g => X g ∨ g ∈ L
theorem fresh4 {P : World → Prop} {w : World} {A0 A1 A2 A3 : Obj} (h : ∀ W, Below w.heap.size w W → W.heap[w.heap.size]? = some A0 → W.heap[w.heap.size + 1]? = some A1 → W.heap[w.heap.size + 2]? = some A2 → W.heap[w.heap.size + 3]? = some A3 → W.heap.size = w.heap.size + 4 → P W) : P ((((w.alloc A0).alloc A1).alloc A2).alloc A3) :=
  fresh3 (P := fun W => P (W.alloc A3)) fun W1 b1 h0 h1 h2 s1 => fresh1 fun W2 b2 hn s2 => h W2 (ret_tr b1 b2) ((b2.block _ (by omega)).trans h0) ((b2.block _ (by omega)).trans h1) ((b2.block _ (by omega)).trans h2) (by rw [s1] at hn; exact hn) (by omega)
theorem map_set_same {L : List Bl} {k b : Nat} {cs cs' : Array Value} {t : TypeId} (hk : L[k]? = some (b, cs, t)) : (L.set k (b, cs', t)).map (·.1) = L.map (·.1) := by
  apply List.ext_getElem?
  intro j
  rw [List.getElem?_map, List.getElem?_map, List.getElem?_set]
  by_cases e : k = j
  · subst e
    rw [if_pos rfl, hk]
    have := (List.getElem?_eq_some_iff.1 hk).1
    rw [if_pos this]
    rfl
  · rw [if_neg e]
theorem cells2 {W : World} {b : Nat} {u0 u1 : Value} {t : TypeId} {f : Nat × Nat} (h : W.heap[b]? = some (.cells #[u0, u1] t f)) : W.cell? ⟨b, 0, none⟩ = some u0 ∧ W.cell? ⟨b, 1, none⟩ = some u1 := by
  refine ⟨?_, ?_⟩ <;> (rw [Lib.cell_of_heap h]; rfl)
theorem wpList_fresh1 {P : Program} {ops : Array Oper} {Q : Exit → Act → World → Prop} {l : List Oper} {a : Act} {w : World} {A : Obj}
    (h : ∀ W, Below w.heap.size w W → W.heap[w.heap.size]? = some A → W.heap.size = w.heap.size + 1 → wpList P ops Q l a W) : wpList P ops Q l a (w.alloc A) := fresh1 (P := fun W => wpList P ops Q l a W) h
theorem there_block {w : World} {b : Nat} {old : Array Value} {t : TypeId} (hb : w.heap[b]? = some (.cells old t (0, 0))) : w.there b 0 old.size := fun j hj => by
  refine ⟨?_, Lib.frozen_of_heap hb _⟩
  rw [Lib.cell_of_heap hb, Nat.zero_add, Array.getElem?_eq_getElem hj]
  rfl
theorem heap_setCells_same {b : Nat} {t : TypeId} : ∀ (vs : List Value) (o : Nat) (w : World) (cs : Array Value), w.heap[b]? = some (.cells cs t (0, 0)) → ∃ cs', (w.setCells b o vs).heap[b]? = some (.cells cs' t (0, 0)) ∧ cs'.size = cs.size
  | [], _, _, cs, h => ⟨cs, h, rfl⟩
  | v :: r, o, w, cs, h => by
    obtain ⟨cs', h1, h2⟩ := heap_setCells_same r (o + 1) (w.setCell ⟨b, o, none⟩ v) _ (heap_set h)
    exact ⟨cs', h1, by rw [h2, Array.size_setIfInBounds]⟩
theorem heap_setCells_all {w : World} {b : Nat} {old : Array Value} {t : TypeId} (vs : List Value) (hb : w.heap[b]? = some (.cells old t (0, 0))) (hs : old.size = vs.length) : (w.setCells b 0 vs).heap[b]? = some (.cells vs.toArray t (0, 0)) := by
  obtain ⟨cs', h1, h2⟩ := heap_setCells_same (t := t) vs 0 w old hb
  rw [h1]
  have hr := World.rangeAt_setCells_same w b 0 vs (by rw [← hs]; exact there_block hb)
  have : cs' = vs.toArray := by
    apply Array.ext_getElem?
    intro j
    rcases Nat.lt_or_ge j vs.length with hj | hj
    · have h3 := hr j vs[j] (List.getElem?_eq_getElem hj)
      rw [Lib.cell_of_heap h1, Nat.zero_add] at h3
      rw [h3]
      simp [hj]
    · rw [Array.getElem?_eq_none (by omega), Array.getElem?_eq_none (by simpa using hj)]
  rw [this]
theorem wpList_store_row {P : Program} {ops : Array Oper} {rest : List Oper} {op : Oper} {a : Act} {w : World} {Q : Exit → Act → World → Prop} (hgd : op.guard = none) (ty : TypeId) (x y : Operand) (ho : op.op = .store ty x y)
    (b : Nat) {cells old : List Value} {t : TypeId} (hx : a.eval x = .pointer (some ⟨b, 0, none⟩)) (hy : a.eval y = .agg cells.toArray) (hb : w.heap[b]? = some (.cells old.toArray t (0, 0))) (hs : old.length = cells.length)
    (hi : (P.info? ty).map (·.size) = some cells.length) (h1 : cells.all (·.oneCell') = true)
    (h : ∀ W', Below b w W' → (∀ g, g ≠ b → W'.heap[g]? = w.heap[g]?) → W'.heap.size = w.heap.size → W'.heap[b]? = some (.cells cells.toArray t (0, 0)) → wpList P ops Q rest (a.put op.dst undef) W') : wpList P ops Q (op :: rest) a w := by
  refine wpList_store_mid hgd ty x y ho b 0 cells.toArray hx hy ?_ (by simpa using hi) ?_ ?_
  · have := there_block hb
    rw [List.size_toArray] at this ⊢
    rwa [← hs]
  · exact all_oneCell_toArray fun v hv => List.all_eq_true.1 h1 v hv
  · exact h _ (below_setCells _ _ (Nat.le_refl _) _ _ _) (fun g hg => heap_setCells _ _ hg _ _ _) (size_setCells _ _ _ _) (heap_setCells_all _ hb (by rw [List.size_toArray]; exact hs))
theorem wp_store_row {P : Program} {op : Oper} {a : Act} {w : World} {K : Act → World → Prop} {Q : Exit → Act → World → Prop} (ty : TypeId) (x y : Operand) (ho : op.op = .store ty x y)
    (b : Nat) {cells old : List Value} {t : TypeId} (hx : a.eval x = .pointer (some ⟨b, 0, none⟩)) (hy : a.eval y = .agg cells.toArray) (hb : w.heap[b]? = some (.cells old.toArray t (0, 0))) (hs : old.length = cells.length)
    (hi : (P.info? ty).map (·.size) = some cells.length) (h1 : cells.all (·.oneCell') = true)
    (h : ∀ W', Below b w W' → (∀ g, g ≠ b → W'.heap[g]? = w.heap[g]?) → W'.heap.size = w.heap.size → W'.heap[b]? = some (.cells cells.toArray t (0, 0)) → K (a.put op.dst undef) W') : op.wp P a w K Q := by
  refine wp_store_mid ty x y ho b 0 cells.toArray hx hy ?_ (by simpa using hi) ?_ ?_
  · have := there_block hb
    rw [List.size_toArray] at this ⊢
    rwa [← hs]
  · exact all_oneCell_toArray fun v hv => List.all_eq_true.1 h1 v hv
  · exact h _ (below_setCells _ _ (Nat.le_refl _) _ _ _) (fun g hg => heap_setCells _ _ hg _ _ _) (size_setCells _ _ _ _) (heap_setCells_all _ hb (by rw [List.size_toArray]; exact hs))
theorem yieldsIf_load_row {P : Program} {ops : Array Oper} {S : World → Prop} {op : Oper} {a : Act} (hw : Region.wanted op (yielded ops a.tmps) = true) (ty : TypeId) (x : Operand) (ho : op.op = .load ty x)
    (b : Nat) (hx : a.eval x = .pointer (some ⟨b, 0, none⟩)) (t : TypeId) (cs : Array Value) (fr : Nat × Nat) (d : TypeDesc) (hS : ∀ w, S w → w.heap[b]? = some (.cells cs t fr))
    (hu : P.underlying ty = some d) (hd : (match d with | .struct _ | .array _ _ => true | _ => false) = true) (hi : (P.info? ty).map (·.size) = some cs.size) : YieldsIf P ops S op (.agg cs) a :=
  .inl ⟨hw, fun w hw' => by
    unfold execOp
    simp only [ho, hx, Instr.loadAt, Instr.sureAddr, Sem.run_bind, Sem.run_pure, Result.andThen_ok, run_loadVar_row w b t ty cs fr d (hS w hw') hu hd hi]⟩
end Go.Proofs.Ytilhiafmljmljaa
namespace Go.Proofs.Ytilhiafmljmljaa
open Go.RowKit Go.Shelf
abbrev Thing := (Nat → Prop) → World → Prop
structure Firm (P : Thing) : Prop where
  add : ∀ {X Y : Nat → Prop} {W W' : World}, P X W → Below W.heap.size W W' → (∀ g, Y g → X g ∨ W.heap.size ≤ g) → P Y W'
  other : ∀ {X : Nat → Prop} {b : Nat} {W W' : World}, P X W → X b → W'.heap.size = W.heap.size → (∀ g, g ≠ b → W'.heap[g]? = W.heap[g]?) → P X W'
section
variable {P Q : Thing} {X Y : Nat → Prop} {W W' : World}
theorem Firm.keep (f : Firm P) (h : P X W) (hb : Below W.heap.size W W') : P X W' := f.add h hb fun _ hg => .inl hg
theorem Firm.sub (f : Firm P) (h : P X W) (hs : ∀ g, Y g → X g) : P Y W := f.add h (Below.refl _ _) fun g hg => .inl (hs g hg)
theorem Firm.all {α : Type} {P : α → Thing} {S : α → Prop} (f : ∀ a, Firm (P a)) : Firm (fun X W => ∀ a, S a → P a X W) := ⟨fun h hb hY a ha => (f a).add (h a ha) hb hY, fun h hX hs hg a ha => (f a).other (h a ha) hX hs hg⟩
end
def RdX (size : Nat) (v : Value) (n : Nat) (xs : List Value) : Thing := fun X W => Rd W.heap.size size v n xs W ∧ ∀ g, X g → Avoid g v
theorem RdX.firm (size : Nat) (v : Value) (n : Nat) (xs : List Value) : Firm (RdX size v n xs) :=
  ⟨fun h hb hY => ⟨rd_keep h.1 hb, fun g hg => (hY g hg).elim (h.2 g) fun h1 => rd_far h.1 h1⟩,
   fun {X b W W'} h hX hs hg => ⟨by rw [hs]; exact rd_other h.1 (h.2 b hX) hg, h.2⟩⟩
theorem RdX.none0 (size : Nat) (X : Nat → Prop) (W : World) : RdX size (.slice none 0 0) 0 [] X W := ⟨Rd.none0 _ _ _, fun g _ a n c e _ => by cases e⟩
theorem RdX.form {size n : Nat} {v : Value} {xs : List Value} {X : Nat → Prop} {W : World} (h : RdX size v n xs X W) : ∃ ao cap, v = .slice ao n cap := by
  obtain ⟨ao, cap, e, _, _⟩ := Rd.form h.1
  exact ⟨ao, cap, e⟩
theorem RdX.own {base size n : Nat} {e : TypeId} {v : Value} {xs : List Value} {X : Nat → Prop} {W : World} (h : W.ownsRow base e size v n xs) (hX : ∀ g, X g → g < base) : RdX size v n xs X W :=
  ⟨Rd.own h (Nat.le_refl _), fun g hg => own_far h (hX g hg)⟩
structure Sf (X : Nat → Prop) (w : World) (B : List Bl) (G : List Thing) (W : World) : Prop where
  bel : Below w.heap.size w W
  old : Old X w
  blk : ∀ x ∈ B, W.heap[x.1]? = some (.cells x.2.1 x.2.2 (0, 0)) ∧ w.heap.size ≤ x.1
  nd : (B.map (·.1)).Nodup
  gv : ∀ P ∈ G, Firm P ∧ P (Xo X (B.map (·.1))) W
section
variable {X : Nat → Prop} {w W W' : World} {B : List Bl} {G : List Thing}
theorem Sf.lt (h : Sf X w B G W) {x : Bl} (hx : x ∈ B) : x.1 < W.heap.size := (Array.getElem?_eq_some_iff.1 (h.blk x hx).1).1
theorem Sf.start (hX : Old X w) (hG : ∀ P ∈ G, Firm P ∧ P X w) : Sf X w [] G w :=
  ⟨Below.refl _ _, hX, (fun _ h => by cases h), List.nodup_nil, fun P hP => ⟨(hG P hP).1, (hG P hP).1.sub (hG P hP).2 fun g hg => hg.elim id (fun h => by cases h)⟩⟩
theorem Sf.call (h : Sf X w B G W) (hb : Below W.heap.size W W') : Sf X w B G W' :=
  ⟨ret_tr h.bel hb, h.old, fun x hx => ⟨(hb.block _ (h.lt hx)).trans (h.blk x hx).1, (h.blk x hx).2⟩, h.nd, fun P hP => ⟨(h.gv P hP).1, (h.gv P hP).1.keep (h.gv P hP).2 hb⟩⟩
theorem Sf.oldX (h : Sf X w B G W) : Old (Xo X (B.map (·.1))) W := fun g hg => by
  rcases hg with hg | hg
  · exact Nat.lt_of_lt_of_le (h.old g hg) h.bel.size
  · obtain ⟨x, hx, rfl⟩ := List.mem_map.1 hg
    exact h.lt hx
theorem Sf.news (h : Sf X w B G W) (hb : Below W.heap.size W W') (C : List Bl) (hC : ∀ x ∈ C, W'.heap[x.1]? = some (.cells x.2.1 x.2.2 (0, 0)) ∧ W.heap.size ≤ x.1) (hn : (C.map (·.1)).Nodup) : Sf X w (B ++ C) G W' := by
  have hY : ∀ g, Xo X ((B ++ C).map (·.1)) g → Xo X (B.map (·.1)) g ∨ W.heap.size ≤ g := fun g hg => by
    rcases hg with hg | hg
    · exact .inl (.inl hg)
    · rw [List.map_append, List.mem_append] at hg
      rcases hg with hg | hg
      · exact .inl (.inr hg)
      · obtain ⟨x, hx, rfl⟩ := List.mem_map.1 hg
        exact .inr (hC x hx).2
  refine ⟨ret_tr h.bel hb, h.old, fun x hx => ?_, ?_, fun P hP => ⟨(h.gv P hP).1, (h.gv P hP).1.add (h.gv P hP).2 hb hY⟩⟩
  · rcases List.mem_append.1 hx with hx | hx
    · exact ⟨(hb.block _ (h.lt hx)).trans (h.blk x hx).1, (h.blk x hx).2⟩
    · exact ⟨(hC x hx).1, Nat.le_trans h.bel.size (hC x hx).2⟩
  · rw [List.map_append, List.nodup_append]
    refine ⟨h.nd, hn, fun a ha b hb2 e => ?_⟩
    obtain ⟨x, hx, rfl⟩ := List.mem_map.1 ha
    obtain ⟨y, hy, rfl⟩ := List.mem_map.1 hb2
    have := h.lt hx
    have := (hC y hy).2
    omega
theorem Sf.at (h : Sf X w B G W) (k : Nat) {b : Nat} {cs : Array Value} {t : TypeId} (hk : B[k]? = some (b, cs, t)) : W.heap[b]? = some (.cells cs t (0, 0)) := (h.blk _ (List.mem_of_getElem? hk)).1
theorem Sf.own (h : Sf X w B G W) (k : Nat) {b : Nat} {cs : Array Value} {t : TypeId} (hk : B[k]? = some (b, cs, t)) : w.heap.size ≤ b ∧ b < W.heap.size := ⟨(h.blk _ (List.mem_of_getElem? hk)).2, h.lt (List.mem_of_getElem? hk)⟩
theorem Sf.set (h : Sf X w B G W) (k : Nat) {b : Nat} {cs cs' : Array Value} {t : TypeId} (hk : B[k]? = some (b, cs, t)) (hb : Below b W W') (hg : ∀ g, g ≠ b → W'.heap[g]? = W.heap[g]?) (hs : W'.heap.size = W.heap.size) (hn : W'.heap[b]? = some (.cells cs' t (0, 0))) :
    Sf X w (B.set k (b, cs', t)) G W' := by
  have hm := map_set_same (cs' := cs') hk
  have hkl := (List.getElem?_eq_some_iff.1 hk).1
  have hXb : Xo X (B.map (·.1)) b := .inr (List.mem_map.2 ⟨_, List.mem_of_getElem? hk, rfl⟩)
  have hwb := (h.own k hk).1
  refine ⟨h.bel.trans (hb.mono hwb), h.old, fun x hx => ?_, by rw [hm]; exact h.nd, fun P hP => by rw [hm]; exact ⟨(h.gv P hP).1, (h.gv P hP).1.other (h.gv P hP).2 hXb hs hg⟩⟩
  obtain ⟨j, hj⟩ := List.mem_iff_getElem?.1 hx
  rw [List.getElem?_set] at hj
  by_cases e : k = j
  · subst e
    rw [if_pos rfl, if_pos hkl] at hj
    obtain rfl := Option.some.inj hj
    exact ⟨hn, hwb⟩
  · rw [if_neg e] at hj
    have hne : x.1 ≠ b := fun e2 => by
      have h1 : (B.map (·.1))[k]? = some b := by rw [List.getElem?_map, hk]; rfl
      have h2 : (B.map (·.1))[j]? = some b := by rw [List.getElem?_map, hj, ← e2]; rfl
      have hkl' : k < (B.map (·.1)).length := by simpa using hkl
      exact e ((List.getElem?_inj hkl' h.nd).1 (h1.trans h2.symm))
    exact ⟨(hg _ hne).trans (h.blk x (List.mem_of_getElem? hj)).1, (h.blk x (List.mem_of_getElem? hj)).2⟩
theorem Sf.less (h : Sf X w B G W) {G' : List Thing} (hG : ∀ x ∈ G', x ∈ G) : Sf X w B G' W := ⟨h.bel, h.old, h.blk, h.nd, fun x hx => h.gv x (hG x hx)⟩
theorem Sf.g (h : Sf X w B G W) (k : Nat) {P : Thing} (hk : G[k]? = some P) : P (Xo X (B.map (·.1))) W := (h.gv _ (List.mem_of_getElem? hk)).2
end
end Go.Proofs.Ytilhiafmljmljaa
