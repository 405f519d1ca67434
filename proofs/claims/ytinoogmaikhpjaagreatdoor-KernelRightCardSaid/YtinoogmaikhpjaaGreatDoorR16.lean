import Derived.Test.YtinoogmaikhpjaaGreatDoorR15
import Derived.Lib.TrimByte
import Derived.Lib.Bytealg
import Derived.Test.YtinoogmaikhpjaaGreatDoorR11
import Derived.Test.YtinoogmaikhpjaaGreatDoorShelf
import Derived.Lib.Strings
import Derived.Laws.OwnMore
import Derived.Laws.BitsLemmas
import Derived.Test.YtinoogmaikhpjaaGreatDoorProg
import Derived.Test.YtinoogmaikhpjaaGreatDoorR13
namespace Go.Proofs.YtinoogmaikhpjaaGreatDoor
open Go.RowKit Go.Shelf
attribute [local go_sem ↓] Go.wp_at_zero Go.wp_at_succ
set_option maxRecDepth 100000 in
set_option maxHeartbeats 2000000 in
theorem rget_any (v : Value) (ms : List NodeM) (most room i : Int) (w : World) (hv : RdM w.heap.size v ms w) (hl : ms.length ≤ 10000) :
    Calls Tryz.prog 18 #[.agg #[v, .int .i64 most, .int .i64 room], .int .i64 i] w fun e w' => GetIs (pl ms) i e w w' := by
  obtain ⟨ao, cap, rfl, _, _⟩ := rdm_form hv
  have HV := Lib.hid hv
  have HL := Lib.hid hl
  clear hv
  have hret : ∀ (W : World) (cs : Array Value) (fr), W.heap[w.heap.size + 1]? = some (.cells cs 70 fr) → cs.size = 8 → ∀ tmps : Array Value, tmps.getD 4 undef = .pointer (some ⟨w.heap.size + 1, 0, none⟩) → (results Tryz.f18 tmps).run Tryz.prog W = .ok (.tuple #[.agg cs, tmps.getD 5 undef]) W := fun W cs fr h hs tmps ht =>
    results_ct (p := 4) (u := 5) (ty := 70) rfl tmps W (w.heap.size + 1) _ cs fr _ ht h Tryz.underlying70 rfl (by rw [hs]; kernel_rfl)
  have no : ∀ W : World, gotB (pl ms) i = false → Below w.heap.size w W → GetIs (pl ms) i (.returned (.tuple #[.agg #[.int .i64 0, .int .i64 0, .int .i64 0, .int .i64 0, .int .i64 0, .int .i64 0, .string ⟨#[]⟩, .slice none 0 0], .bool false])) w W := fun _ h hb => get_no h hb
  have HNO := Lib.hid no
  clear no
  by_cases h1 : i < 0
  · have hI : decide (i < 0) = true := by simpa using h1
    have HG : Hid (gotB (pl ms) i = false) := Lib.hid (by unfold gotB inL; rw [show decide (0 ≤ i) = false by simp; omega]; rfl)
    clear h1
    go_enter Tryz.func18, Tryz.ntmps18
    go_wp2_with fail
    refine fresh2 (P := fun W => bodyPost _ _ _ _ _ W) ?_
    intro W0 hb0 hP hQ hs0
    refine bodyPost_ret (hret _ _ _ hQ rfl _ rfl) rfl ?_
    exact HNO.out _ HG.out hb0
  have g1 : decide (i < 0) = false := by simpa using h1
  by_cases h2 : (ms.length : Int) ≤ i
  · have hI : decide ((ms.length : Int) ≤ i) = true := by simpa using h2
    have HG : Hid (gotB (pl ms) i = false) := Lib.hid (by unfold gotB inL; rw [show decide (i < (pl ms).length) = false by rw [pl_len]; simpa using h2]; simp)
    clear h1 h2
    go_enter Tryz.func18, Tryz.ntmps18
    go_wp2_with fail
    refine fresh2 (P := fun W => bodyPost _ _ _ _ _ W) ?_
    intro W0 hb0 hP hQ hs0
    refine bodyPost_ret (hret _ _ _ hQ rfl _ rfl) rfl ?_
    exact HNO.out _ HG.out hb0
  have g2 : decide ((ms.length : Int) ≤ i) = false := by simpa using h2
  obtain ⟨k, rfl, hk⟩ : ∃ k : Nat, i = k ∧ k < ms.length := ⟨i.toNat, by omega, by omega⟩
  have hin := nat_in (l := pl ms) (k := k) (by rw [pl_len]; exact hk)
  have hat := at_nat (pl ms) k (by rw [pl_len]; exact hk)
  have k0 : (0 : Int) ≤ (k : Int) := by omega
  have k1 : (k : Int) < (ms.length : Int) := by omega
  obtain ⟨b, off, n, aon, capn, rfl, hb, hn, -, hrn, c0, c1, c2, c3, c4, c5, c6, c7⟩ := node_at HV.out k hk
  rw [hn] at hat
  by_cases h0 : n.kind = 0
  · have hd : (n.kind == 0) = true := by simpa using h0
    have HG : Hid (gotB (pl ms) k = false) := Lib.hid (by unfold gotB; rw [hat]; simp [h0])
    clear h0 h1 h2 hin hat hn hrn
    go_enter Tryz.func18, Tryz.ntmps18
    go_wp2_with fail
    refine fresh2 (P := fun W => bodyPost _ _ _ _ _ W) ?_
    intro W0 hb0 hP hQ hs0
    refine bodyPost_ret (hret _ _ _ hQ rfl _ rfl) rfl ?_
    exact HNO.out _ HG.out hb0
  · have hd : (n.kind == 0) = false := by simpa using h0
    have HG : Hid (gotB (pl ms) k = true) := Lib.hid (by unfold gotB; rw [hat, hin]; simp [h0])
    have HGe : Hid (getL (pl ms) k = n) := Lib.hid (by unfold getL; rw [HG.out, hat]; rfl)
    have HR := Lib.hid hrn
    clear h0 h1 h2 hin hat hn hrn
    go_enter Tryz.func18, Tryz.ntmps18
    go_wp2_with fail
    refine fresh2 (P := fun W => bodyPost _ _ _ _ _ W) ?_
    intro W0 hb0 hP hQ hs0
    refine bodyPost_ret (hret _ _ _ hQ rfl _ rfl) rfl ?_
    exact ⟨.slice aon n.names.length capn, by rw [HGe.out, HG.out]; rfl, by rw [HGe.out]; exact rd_keep HR.out hb0, hb0⟩
def NamesIs (l : List NodeL) (i : Int) (e : Ending) (W W' : World) : Prop := e = .returned (.tuple #[.int .i64 ((nmL l i (0, -1)).1 : Int), .int .i64 (nmL l i (0, -1)).2]) ∧ Below W.heap.size W W'
set_option maxRecDepth 100000 in
set_option maxHeartbeats 2000000 in
theorem names_any (v : Value) (ms : List NodeM) (most room i : Int) (w : World) (hv : RdM w.heap.size v ms w) (hsm : Small (pl ms)) :
    Calls Tryz.prog 62 #[.agg #[v, .int .i64 most, .int .i64 room], .int .i64 i] w fun e w' => NamesIs (pl ms) i e w w' := by
  have hl : ms.length ≤ 110 := by have := hsm.1; rwa [pl_len] at this
  obtain ⟨ao, cap, rfl, _, _⟩ := rdm_form hv
  have hb0 : Below w.heap.size w (w.alloc (.cells #[.slice ao ms.length cap, .int .i64 most, .int .i64 room] 37)) := (Below.refl _ w).alloc (Nat.le_refl _) _
  have HV := Lib.hid (hv.below hb0)
  have HS := Lib.hid hsm
  clear hv hsm
  go_enter Tryz.func62, Tryz.ntmps62
  go_wp2_with fail
  go_loop [6, 7, 8] (fun c d i' => ∃ k : Nat, i' = .int .i64 k ∧ k ≤ ms.length ∧ c = .int .i64 ((nmTo (pl ms) i (0, -1) k).1 : Int) ∧ d = .int .i64 (nmTo (pl ms) i (0, -1) k).2) (fun _ _ i' => ms.length - (intOf i').toNat)
  case atStart => exact ⟨0, rfl, Nat.zero_le _, rfl, rfl⟩
  case round =>
    obtain ⟨k, rfl, hk, rfl, rfl⟩ := hrel
    by_cases hlt : k < ms.length
    · obtain ⟨b, off, n, aon, capn, rfl, hb, hn, -, hrn, c0, c1, c2, c3, c4, c5, c6, c7⟩ := node_at HV.out k hlt
      have hsucc : Hid (nmTo (pl ms) i (0, -1) (k + 1) = foldN i k (nmTo (pl ms) i (0, -1) k) n.names) := Lib.hid (by
        show foldN i k _ ((pl ms).getD k zeroN).names = _
        rw [List.getD_eq_getElem?_getD, List.getElem?_eq_getElem (by rw [pl_len]; exact hlt), hn]
        rfl)
      have hle := nm_le HS.out i (0, -1) k
      have hnl : n.names.length ≤ 130 := (HS.out.2 n (by rw [← hn]; exact List.getElem_mem _)).2
      have HR := Lib.hid hrn
      clear hn hrn
      generalize nmTo (pl ms) i (0, -1) k = s at *
      have hle2 : s.1 ≤ 15000 := by simp at hle; omega
      clear hle
      go_wp2_with fail
      go_loop [6, 7, 9] (fun c d j' => ∃ j : Nat, j' = .int .i64 j ∧ j ≤ n.names.length ∧ c = .int .i64 ((foldN i k s (n.names.take j)).1 : Int) ∧ d = .int .i64 (foldN i k s (n.names.take j)).2) (fun _ _ j' => n.names.length - (intOf j').toNat)
      case atStart => exact ⟨0, rfl, Nat.zero_le _, rfl, rfl⟩
      case round =>
        obtain ⟨j, rfl, hj, rfl, rfl⟩ := hrel
        by_cases hlj : j < n.names.length
        · obtain ⟨b2, off2, cap2, e, _, _, _, _, hc⟩ := HR.out.at (by omega)
          injection e with e1 _ e2
          subst e1
          subst e2
          have d1 : World.cell? _ ⟨b2, off2 + j * 2 + 1, none⟩ = _ := hc (j * 2 + 1) _ (ents_at1 n.names j hlj)
          have hst := foldN_succ i k s n.names j hlj
          have hfl := fold_le i k (n.names.take j) s
          rw [List.length_take] at hfl
          generalize n.names[j] = f at *
          generalize foldN i k s (n.names.take j) = t at *
          obtain ⟨fx, fz⟩ := f
          by_cases hz : fz = i
          · have hI : (fz == i) = true := by simpa using hz
            have hst2 : foldN i k s (n.names.take (j + 1)) = (t.1 + 1, (k : Int)) := by rw [hst]; unfold stepN; rw [if_pos hz]
            have HST := Lib.hid hst2
            have ht1 : t.1 ≤ 16000 := by omega
            clear hz hst hst2 hc hfl
            go_wp2_with fail
            go_round
            case rel => exact ⟨j + 1, by go_num, hlj, by rw [HST.out]; go_num, by rw [HST.out]⟩
            case measure => simp [intOf]; omega
          · have hI : (fz == i) = false := by simpa using hz
            have hst2 : foldN i k s (n.names.take (j + 1)) = t := by rw [hst]; unfold stepN; rw [if_neg hz]
            have HST := Lib.hid hst2
            clear hz hst hst2 hc hfl
            go_wp2_with fail
            go_round
            case rel => exact ⟨j + 1, by go_num, hlj, by rw [HST.out], by rw [HST.out]⟩
            case measure => simp [intOf]; omega
        · have hje : j = n.names.length := by omega
          have HT : Hid (foldN i k s (n.names.take j) = nmTo (pl ms) i (0, -1) (k + 1)) := Lib.hid (by rw [hje, List.take_length, hsucc.out])
          have hI2 : decide (j < n.names.length) = false := by simp; omega
          clear hje hlj
          go_wp2_with fail
          go_round
          case rel => exact ⟨k + 1, by go_num, hlt, by rw [HT.out], by rw [HT.out]⟩
          case measure => simp [intOf]; omega
    · have hke : k = ms.length := by omega
      have HT : Hid (nmTo (pl ms) i (0, -1) k = nmL (pl ms) i (0, -1)) := Lib.hid (by rw [hke]; unfold nmL; rw [pl_len])
      have hI2 : decide (k < ms.length) = false := by simp; omega
      clear hke hlt
      rw [HT.out]
      go_wp2_with fail
      go_ret2
      exact ⟨rfl, hb0⟩
end Go.Proofs.YtinoogmaikhpjaaGreatDoor
namespace Go.Proofs.YtinoogmaikhpjaaGreatDoor
def sp : Nat → Option Nat → List UInt8 → List (Nat × Nat)
  | _, none, [] => []
  | i, some s, [] => [(s, i)]
  | i, none, c :: r => if c = 47 then sp (i + 1) none r else sp (i + 1) (some i) r
  | i, some s, c :: r => if c = 47 then (s, i) :: sp (i + 1) none r else sp (i + 1) (some s) r
def spans (l : List UInt8) : List (Nat × Nat) := sp 0 none l
def cutS (l : List UInt8) (p : Nat × Nat) : List UInt8 := (l.take p.2).drop p.1
def parts (l : List UInt8) : List (List UInt8) := (spans l).map (cutS l)
end Go.Proofs.YtinoogmaikhpjaaGreatDoor
namespace Go.Proofs.YtinoogmaikhpjaaGreatDoor
open Go.RowKit Go.Shelf
attribute [local go_sem] Oper.semAt_some wide_fn wide_depth
end Go.Proofs.YtinoogmaikhpjaaGreatDoor
namespace Go.Proofs.YtinoogmaikhpjaaGreatDoor
open Go.RowKit Go.Shelf
attribute [local go_sem] Oper.semAt_some wide_fn wide_depth
end Go.Proofs.YtinoogmaikhpjaaGreatDoor
namespace Go.Proofs.YtinoogmaikhpjaaGreatDoor
open Go.RowKit Go.Shelf
attribute [local go_sem] Oper.semAt_some wide_fn wide_depth
end Go.Proofs.YtinoogmaikhpjaaGreatDoor
namespace Go.Proofs.YtinoogmaikhpjaaGreatDoor
open Go.RowKit Go.Shelf
attribute [local go_sem] Oper.semAt_some wide_fn wide_depth
def checkE (l : List UInt8) : Int :=
  if l = [] then 2 else if 100 < l.length then 9 else if (0 : UInt8) ∈ l then 1 else if (spans l).any (fun p => decide (12 < p.2 - p.1)) then 9 else 0
end Go.Proofs.YtinoogmaikhpjaaGreatDoor
namespace Go.Proofs.YtinoogmaikhpjaaGreatDoor
open Go.RowKit Go.Shelf
attribute [local go_sem] Oper.semAt_some wide_fn wide_depth
end Go.Proofs.YtinoogmaikhpjaaGreatDoor
namespace Go.Proofs.YtinoogmaikhpjaaGreatDoor
open Go.RowKit Go.Shelf
theorem isEmpty_iff (s : ByteArray) (b : Bool) (h : s.toList.isEmpty = b) : (s.data.toList = []) ↔ b = true := by
  rw [Lib.toList_data] at h; rw [← h]; simp
end Go.Proofs.YtinoogmaikhpjaaGreatDoor
namespace Go.Proofs.YtinoogmaikhpjaaGreatDoor
end Go.Proofs.YtinoogmaikhpjaaGreatDoor
namespace Go.Proofs.YtinoogmaikhpjaaGreatDoor
open Go.RowKit Go.Shelf
end Go.Proofs.YtinoogmaikhpjaaGreatDoor
namespace Go.Proofs.YtinoogmaikhpjaaGreatDoor
open Go.RowKit Go.Shelf
end Go.Proofs.YtinoogmaikhpjaaGreatDoor
namespace Go.Proofs.YtinoogmaikhpjaaGreatDoor
open Go.RowKit Go.Shelf
end Go.Proofs.YtinoogmaikhpjaaGreatDoor
namespace Go.Proofs.YtinoogmaikhpjaaGreatDoor
end Go.Proofs.YtinoogmaikhpjaaGreatDoor
namespace Go.Proofs.YtinoogmaikhpjaaGreatDoor
open Go.RowKit Go.Shelf
end Go.Proofs.YtinoogmaikhpjaaGreatDoor
namespace Go.Proofs.YtinoogmaikhpjaaGreatDoor
open Go.RowKit Go.Shelf
end Go.Proofs.YtinoogmaikhpjaaGreatDoor
namespace Go.Proofs.YtinoogmaikhpjaaGreatDoor
open Go.RowKit Go.Shelf
end Go.Proofs.YtinoogmaikhpjaaGreatDoor
namespace Go.Proofs.YtinoogmaikhpjaaGreatDoor
end Go.Proofs.YtinoogmaikhpjaaGreatDoor
namespace Go.Proofs.YtinoogmaikhpjaaGreatDoor
open Go.RowKit Go.Shelf
end Go.Proofs.YtinoogmaikhpjaaGreatDoor
namespace Go.Proofs.YtinoogmaikhpjaaGreatDoor
open Go
abbrev V (n : Int) : BitVec 64 := BitVec.ofInt 64 n
def subB (want rights : Int) : Bool := (V want &&& 7#64 &&& ~~~ (V rights &&& 7#64)) == 0#64
def mayB (m owner who want : Int) : Bool := if who = 0 then true else subB want (if owner = who then m / 8 else m)
def maskI (m u : Int) : Int := bits .andNot .i64 (m % 64) u
end Go.Proofs.YtinoogmaikhpjaaGreatDoor
namespace Go.Proofs.YtinoogmaikhpjaaGreatDoor
open Go.RowKit
end Go.Proofs.YtinoogmaikhpjaaGreatDoor
namespace Go.Proofs.YtinoogmaikhpjaaGreatDoor
structure SpotL where
  dir : Int
  name : Str
  ino : Int
  slash : Bool
def zeroS : SpotL := ⟨0, [], 0, false⟩
theorem spot_ext {a b : SpotL} (h0 : a.dir = b.dir) (h1 : a.name = b.name) (h2 : a.ino = b.ino) (h3 : a.slash = b.slash) : a = b := by
  cases a; cases b; simp_all
instance : DecidableEq SpotL := fun a b =>
  decidable_of_iff (a.dir = b.dir ∧ a.name = b.name ∧ a.ino = b.ino ∧ a.slash = b.slash) ⟨fun ⟨h0, h1, h2, h3⟩ => spot_ext h0 h1 h2 h3, fun h => by subst h; simp⟩
abbrev ResL := SpotL × Int
def nodeL (l : List NodeL) (i : Int) : NodeL := if gotB l i = true then atI l i else zeroN
def dirE (l : List NodeL) (i : Int) : Int := if gotB l i = true then if (nodeL l i).kind = 2 then 0 else 4 else 2
def lookL (l : List NodeL) (i : Int) (p : Str) : Int := if p = [46] then i else if p = [46, 46] then (nodeL l i).up else (findL (nodeL l i).names p).getD (-1)
def firstAt (i : Int) (p : Str) : Int := if Lib.hasPrefix p [47] = true then 0 else i
def mayAt (l : List NodeL) (who i : Int) : Bool := mayB (nodeL l i).mode (nodeL l i).owner who 1
def goW (l : List NodeL) (who : Int) (follow slash : Bool) (i : Int) (ps : List Str) (hops : Nat) : ResL :=
  match ps with
  | [] => (⟨0, [], 0, slash⟩, 0)
  | p :: rest =>
    if dirE l i ≠ 0 then (zeroS, dirE l i)
    else if mayAt l who i = false then (zeroS, 7)
    else if lookL l i p < 0 then if rest = [] then (⟨i, p, -1, slash⟩, 0) else (zeroS, 2)
    else if (nodeL l (lookL l i p)).kind = 3 ∧ (rest ≠ [] ∨ follow = true ∨ slash = true) then
      if 8 ≤ hops then (zeroS, 8)
      else if checkE (nodeL l (lookL l i p)).data ≠ 0 then (zeroS, checkE (nodeL l (lookL l i p)).data)
      else goW l who follow slash (firstAt i (nodeL l (lookL l i p)).data) (parts (nodeL l (lookL l i p)).data ++ rest) (hops + 1)
    else if rest = [] then if slash = true ∧ (nodeL l (lookL l i p)).kind ≠ 2 then (zeroS, 4) else (⟨i, p, lookL l i p, slash⟩, 0)
    else goW l who follow slash (lookL l i p) rest hops
termination_by (9 - hops, ps.length)
def walkL (l : List NodeL) (who fr : Int) (path : Str) (follow : Bool) : ResL :=
  if checkE path ≠ 0 then (zeroS, checkE path)
  else if parts path = [] then if dirE l (firstAt fr path) ≠ 0 then (zeroS, dirE l (firstAt fr path)) else (⟨firstAt fr path, [], firstAt fr path, true⟩, 0)
  else goW l who follow (Lib.hasSuffix path [47]) (firstAt fr path) (parts path) 0
def wnodeL (r : ResL) : Int × Int := if r.2 ≠ 0 then (0, r.2) else if r.1.ino < 0 then (0, 2) else (r.1.ino, 0)
section
variable {l : List NodeL} {who : Int} {follow slash : Bool} {i : Int} {p : Str} {rest : List Str} {hops : Nat}
theorem go_loop (h : dirE l i = 0) (h2 : mayAt l who i = true) (h3 : ¬ lookL l i p < 0) (h4 : (nodeL l (lookL l i p)).kind = 3) (h5 : rest ≠ [] ∨ follow = true ∨ slash = true) (h6 : 8 ≤ hops) :
    goW l who follow slash i (p :: rest) hops = (zeroS, 8) := by
  rw [goW, if_neg (by simp [h]), if_neg (by simp [h2]), if_neg h3, if_pos ⟨h4, h5⟩, if_pos h6]
end
def RightP (l : List NodeL) : Prop := ∃ most room, rightR l most room = true
theorem right_ok {l : List NodeL} (h : RightP l) {i : Int} (hi : gotB l i = true) : ∃ k : Nat, i = k ∧ ∃ hk : k < l.length, nodeL l i = l[k] ∧ l[k].kind ≠ 0 ∧ okR l k l[k] = true := by
  obtain ⟨most, room, h⟩ := h
  have hg := hi
  unfold gotB at hi
  rw [Bool.and_eq_true] at hi
  obtain ⟨k, rfl, hk⟩ := in_nat hi.1
  have hat := at_nat l k hk
  refine ⟨k, rfl, hk, ?_, ?_, ?_⟩
  · unfold nodeL; rw [if_pos hg, hat]
  · have := hi.2; rw [hat] at this; simpa using this
  · unfold rightR at h
    rw [Bool.and_eq_true] at h
    have := (range_all _ _).1 h.2 k hk
    rw [hat] at this
    exact this
theorem got_le {l : List NodeL} {i : Int} (h : gotB l i = true) : 0 ≤ i ∧ i < l.length := by
  unfold gotB inL at h
  simp only [Bool.and_eq_true, decide_eq_true_iff] at h
  exact h.1
theorem rootR_up {l : List NodeL} {f : Nat} {j : Int} (h : rootR l (f + 1) j = true) : j = 0 ∨ (gotB l j = true ∧ (atI l j).kind = 2 ∧ rootR l f (atI l j).up = true) := by
  unfold rootR at h
  split at h
  · exact .inl ‹_›
  · split at h
    · rename_i h1
      simp only [Bool.and_eq_true, decide_eq_true_iff] at h1
      exact .inr ⟨h1.1, h1.2, h⟩
    · cases h
end Go.Proofs.YtinoogmaikhpjaaGreatDoor
namespace Go.Proofs.YtinoogmaikhpjaaGreatDoor
def nd (l : List NodeL) (k : Nat) : NodeL := l.getD k zeroN
theorem nd_lt {l : List NodeL} {k : Nat} (h : k < l.length) : nd l k = l[k] := by
  unfold nd; rw [List.getD_eq_getElem?_getD, List.getElem?_eq_getElem h]; rfl
theorem nd_ge {l : List NodeL} {k : Nat} (h : l.length ≤ k) : nd l k = zeroN := by
  unfold nd; rw [List.getD_eq_getElem?_getD, List.getElem?_eq_none h]; rfl
theorem nd_kind {l : List NodeL} {k : Nat} (h : (nd l k).kind ≠ 0) : k < l.length := by
  refine Decidable.byContradiction fun hk => h ?_
  rw [nd_ge (by omega)]; rfl
theorem at_nd (l : List NodeL) (k : Nat) : atI l (k : Int) = nd l k := by unfold atI nd; rw [Int.toNat_natCast]
theorem got_nd (l : List NodeL) (k : Nat) : gotB l (k : Int) = true ↔ (nd l k).kind ≠ 0 := by
  unfold gotB
  rw [at_nd, Bool.and_eq_true]
  constructor
  · rintro ⟨_, h⟩; simpa using h
  · intro h; exact ⟨nat_in (nd_kind h), by simpa using h⟩
theorem got_nat {l : List NodeL} {i : Int} (h : gotB l i = true) : ∃ k : Nat, i = k ∧ k < l.length ∧ (nd l k).kind ≠ 0 := by
  obtain ⟨h0, h1⟩ := got_le h
  obtain ⟨k, rfl⟩ := Int.eq_ofNat_of_zero_le h0
  exact ⟨k, rfl, by omega, (got_nd l k).1 h⟩
theorem nodeL_nd {l : List NodeL} {k : Nat} (h : (nd l k).kind ≠ 0) : nodeL l (k : Int) = nd l k := by
  unfold nodeL; rw [if_pos ((got_nd l k).2 h), at_nd]
theorem nd_set {l : List NodeL} {k : Nat} (h : k < l.length) (n : NodeL) (j : Nat) : nd (l.set k n) j = if j = k then n else nd l j := by
  unfold nd
  rw [List.getD_eq_getElem?_getD, List.getD_eq_getElem?_getD, List.getElem?_set]
  by_cases e : j = k
  · subst e; simp [h]
  · rw [if_neg e, if_neg (fun h => e h.symm)]
def cntN (es : List EntL) (j : Int) : Nat := es.countP fun e => decide (e.2 = j)
def cnt (l : List NodeL) (j : Int) : Nat := (l.map fun n => cntN n.names j).sum
theorem cntN_nil (j : Int) : cntN [] j = 0 := rfl
theorem cntN_pos {es : List EntL} {j : Int} : 0 < cntN es j ↔ ∃ e ∈ es, e.2 = j := by
  unfold cntN
  rw [List.countP_pos_iff]
  simp
theorem cntN_zero {es : List EntL} {j : Int} : cntN es j = 0 ↔ ∀ e ∈ es, e.2 ≠ j := by
  unfold cntN
  rw [List.countP_eq_zero]
  simp
theorem cnt_set {l : List NodeL} {k : Nat} (h : k < l.length) (n : NodeL) (j : Int) : cnt (l.set k n) j + cntN (nd l k).names j = cnt l j + cntN n.names j := by
  rw [nd_lt h]
  unfold cnt
  induction l generalizing k with
  | nil => simp at h
  | cons a l ih =>
    cases k with
    | zero => simp; omega
    | succ k =>
      have := ih (k := k) (by simpa using h)
      simp only [List.set_cons_succ, List.map_cons, List.sum_cons, List.getElem_cons_succ] at this ⊢
      omega
theorem cnt_app (l : List NodeL) (n : NodeL) (j : Int) : cnt (l ++ [n]) j = cnt l j + cntN n.names j := by simp [cnt]
theorem cnt_ge {l : List NodeL} (k : Nat) (j : Int) : cntN (nd l k).names j ≤ cnt l j := by
  by_cases h : k < l.length
  · have := cnt_set h ⟨0, 0, 0, 0, 0, 0, [], []⟩ j
    simp only [cntN_nil] at this
    omega
  · rw [nd_ge (by omega)]; exact Nat.zero_le _
theorem cnt_ge2 {l : List NodeL} {k h : Nat} (hne : k ≠ h) (j : Int) : cntN (nd l k).names j + cntN (nd l h).names j ≤ cnt l j := by
  by_cases hk : k < l.length
  · have h1 := cnt_set hk ⟨0, 0, 0, 0, 0, 0, [], []⟩ j
    have h2 := cnt_ge (l := l.set k ⟨0, 0, 0, 0, 0, 0, [], []⟩) h j
    rw [nd_set hk, if_neg (Ne.symm hne)] at h2
    simp only [cntN_nil] at h1
    omega
  · rw [nd_ge (l := l) (k := k) (by omega)]
    have := cnt_ge (l := l) h j
    simpa [zeroN, cntN_nil] using this
theorem nm_cnt (l : List NodeL) (j : Int) (s : Nat × Int) : (nmL l j s).1 = s.1 + cnt l j := by
  have hf : ∀ (es : List EntL) (at' : Int) (s : Nat × Int), (foldN j at' s es).1 = s.1 + cntN es j := by
    intro es at'
    induction es with
    | nil => intro s; rfl
    | cons e es ih =>
      intro s
      show (foldN j at' (stepN j at' s e) es).1 = _
      rw [ih]
      unfold stepN cntN
      by_cases h : e.2 = j <;> simp [h] <;> omega
  have : ∀ k, k ≤ l.length → (nmTo l j s k).1 = s.1 + cnt (l.take k) j := by
    intro k
    induction k with
    | zero => intro _; simp [nmTo, cnt]
    | succ k ih =>
      intro hk
      show (foldN j k (nmTo l j s k) (l.getD k zeroN).names).1 = _
      rw [hf, ih (by omega), List.take_succ_eq_append_getElem (by omega), cnt_app, ← nd_lt (by omega)]
      unfold nd
      omega
  have := this l.length (Nat.le_refl _)
  rwa [List.take_length] at this
inductive Rooted (l : List NodeL) : Int → Prop
  | root : Rooted l 0
  | up (k : Nat) : (nd l k).kind = 2 → Rooted l (nd l k).up → Rooted l k
def LocOk (n : NodeL) : Prop := plainB n = true ∧ (n.kind ≠ 2 → n.names = []) ∧ (n.kind = 2 → n.data = []) ∧ SortedP n.names
def Placed (l : List NodeL) (k : Nat) (n : NodeL) : Prop :=
  (cnt l k = 0 → n.names = [] ∧ n.up = 0) ∧ (cnt l k ≠ 0 → cnt l k = 1 ∧ (∃ h : Nat, n.up = h ∧ 0 < cntN (nd l h).names k) ∧ Rooted l k)
def NamedOk (l : List NodeL) (k : Nat) (n : NodeL) : Prop := n.links = cnt l k ∧ (cnt l k = 0 → 1 ≤ n.opn) ∧ (n.kind = 2 → Placed l k n)
structure RigE (l : List NodeL) (E : Nat → Prop) : Prop where
  root : (nd l 0).kind = 2 ∧ (nd l 0).up = 0 ∧ (nd l 0).links = 1
  zero : ∀ k, (nd l k).kind = 0 → nd l k = zeroN
  loc : ∀ k, (nd l k).kind ≠ 0 → LocOk (nd l k)
  nam : ∀ k, ∀ e ∈ (nd l k).names, ∃ j : Nat, e.2 = j ∧ j ≠ 0 ∧ (nd l j).kind ≠ 0
  nmd : ∀ k, k ≠ 0 → ¬ E k → (nd l k).kind ≠ 0 → NamedOk l k (nd l k)
abbrev Rig (l : List NodeL) : Prop := RigE l fun _ => False
theorem rootR_Rooted {l : List NodeL} : ∀ (f : Nat) (j : Int), rootR l f j = true → Rooted l j := by
  intro f
  induction f with
  | zero => intro j h; cases h
  | succ f ih =>
    intro j h
    rcases rootR_up h with rfl | ⟨hg, hk, h2⟩
    · exact .root
    · obtain ⟨k, rfl, _, _⟩ := got_nat hg
      rw [at_nd] at hk h2
      exact .up k hk (ih _ h2)
theorem rootR_mono (l : List NodeL) : ∀ (f : Nat) (j : Int), rootR l f j = true → rootR l (f + 1) j = true := by
  intro f
  induction f with
  | zero => intro j h; cases h
  | succ f ih =>
    intro j h
    unfold rootR at h ⊢
    split
    · rfl
    · rename_i h0
      rw [if_neg h0] at h
      split at h
      · rename_i h1; rw [if_pos h1]; exact ih _ h
      · cases h
theorem rootR_path (l : List NodeL) (h0 : 0 < l.length) : ∀ (f : Nat) (j : Int), rootR l (f + 1) j = true → rootR l f j = false →
    ∃ L : List Nat, L.length = f + 1 ∧ L.Nodup ∧ (∀ x ∈ L, x < l.length) ∧ ∀ x ∈ L, rootR l (f + 1) (x : Int) = true := by
  intro f
  induction f with
  | zero =>
    intro j h _
    refine ⟨[0], rfl, by simp, fun x hx => ?_, fun x hx => ?_⟩
    · obtain rfl := List.mem_singleton.1 hx; exact h0
    · obtain rfl := List.mem_singleton.1 hx; rfl
  | succ f ih =>
    intro j h hn
    have hj : j ≠ 0 := by
      intro e; subst e
      rw [show rootR l (f + 1) 0 = true from rfl] at hn
      cases hn
    rcases rootR_up h with h1 | ⟨hg, hk, h2⟩
    · exact absurd h1 hj
    · have hn' : rootR l f (atI l j).up = false := by
        unfold rootR at hn
        rw [if_neg hj, if_pos (by rw [hg, hk]; rfl)] at hn
        exact hn
      obtain ⟨k, rfl, hlt, _⟩ := got_nat hg
      obtain ⟨L, a1, a2, a3, a4⟩ := ih _ h2 hn'
      refine ⟨k :: L, by simp [a1], List.nodup_cons.2 ⟨fun hm => ?_, a2⟩, fun x hx => ?_, fun x hx => ?_⟩
      · have := a4 k hm
        rw [hn] at this
        cases this
      · rcases List.mem_cons.1 hx with rfl | hx
        · exact hlt
        · exact a3 x hx
      · rcases List.mem_cons.1 hx with rfl | hx
        · exact h
        · exact rootR_mono l _ _ (a4 x hx)
theorem rootR_len (l : List NodeL) (h0 : 0 < l.length) : ∀ (f : Nat) (j : Int), rootR l f j = true → rootR l (l.length + 1) j = true := by
  intro f
  induction f with
  | zero => intro j h; cases h
  | succ f ih =>
    intro j h
    by_cases hf : f + 1 ≤ l.length + 1
    · have : ∀ d, rootR l (f + 1 + d) j = true := by
        intro d
        induction d with
        | zero => exact h
        | succ d ihd => exact rootR_mono l _ _ ihd
      have h2 := this (l.length + 1 - (f + 1))
      rwa [show f + 1 + (l.length + 1 - (f + 1)) = l.length + 1 by omega] at h2
    · cases hc : rootR l f j with
      | true => exact ih j hc
      | false =>
        obtain ⟨L, a1, a2, a3, _⟩ := rootR_path l h0 f j h hc
        have := pigeon _ _ a2 a3
        omega
theorem Rooted_rootR {l : List NodeL} (h0 : 0 < l.length) {j : Int} (h : Rooted l j) : rootR l (l.length + 1) j = true := by
  have : ∃ f, rootR l f j = true := by
    induction h with
    | root => exact ⟨1, rfl⟩
    | up k hk _ ih =>
      obtain ⟨f, hf⟩ := ih
      refine ⟨f + 1, ?_⟩
      unfold rootR
      split
      · rfl
      · rw [at_nd, if_pos (by rw [(got_nd l k).2 (by rw [hk]; decide), hk]; rfl)]
        exact hf
  obtain ⟨f, hf⟩ := this
  exact rootR_len l h0 f j hf
theorem Rooted_iff {l : List NodeL} (h0 : 0 < l.length) (j : Int) : rootR l (l.length + 1) j = true ↔ Rooted l j := ⟨rootR_Rooted _ _, Rooted_rootR h0⟩
end Go.Proofs.YtinoogmaikhpjaaGreatDoor
