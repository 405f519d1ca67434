import Derived.Test.YtinoogmaikhpjaaGreatDoorR11
import Derived.MapKept
import Derived.RowKit3
import Derived.Below
import Derived.Test.YtinoogmaikhpjaaGreatDoorR28
import Derived.Deep.RegionHeld3
import Derived.Deep.DeepCutAuto
import Derived.Test.YtinoogmaikhpjaaGreatDoorR27
import Derived.Test.YtinoogmaikhpjaaGreatDoorR19
import Derived.Test.YtinoogmaikhpjaaGreatDoorR20
import Derived.Test.YtinoogmaikhpjaaGreatDoorR25
namespace Go.Proofs.YtinoogmaikhpjaaGreatDoor
open Go.RowKit Go.Shelf
attribute [local go_sem ↓] Go.wp_at_zero Go.wp_at_succ
set_option maxRecDepth 100000 in
set_option maxHeartbeats 4000000 in
theorem palive_c {X : Nat → Prop} (k : KernL) (p : Int) (ao ad af ap : Option Addr) (co cd cf cp : Nat) (w : World) (hP : PsX k.ps (.slice ap k.ps.length cp) X w) :
    Calls Tryz.prog 43 #[.agg #[.slice ao k.l.length co, .int .i64 k.most, .int .i64 k.room, .slice ad k.t.ds.length cd, .slice af k.t.fs.length cf, .slice ap k.ps.length cp], .int .i64 p] w fun e w' => e = .returned (.bool (liveB k.ps p)) ∧ Below w.heap.size w w' := by
  have S0 := Lib.hid (Sf.start (w := w) (X := fun _ => False) (G := [PsX k.ps (.slice ap k.ps.length cp)]) (fun _ h => h.elim) (th1 (PsX.firm _ _) ((PsX.firm _ _).sub hP fun _ h => h.elim)))
  clear hP
  go_enter Tryz.func43, Tryz.ntmps43
  go_upto_region 1 with (fail)
  refine code_fresh1 ?_
  intro W1 hb hA0 hs
  have S1 := Lib.hid (S0.out.new1 hb hA0)
  clear hb hA0 hs
  obtain ⟨-, -, -, -, -, k5⟩ := cells6 (S1.out.at 0 rfl)
  by_cases h1 : p < 0
  · have i1 : decide (0 ≤ p) = false := decide_eq_false (by omega)
    have i2 : decide (p < 0) = true := decide_eq_true h1
    have HL : Hid (liveB k.ps p = false) := Lib.hid (by unfold liveB; rw [i1]; rfl)
    clear h1
    go_wp2_with fail
    go_ret
    exact ⟨by rw [HL.out]; rfl, S1.out.bel⟩
  · have i1 : decide (0 ≤ p) = true := decide_eq_true (by omega)
    have i2 : decide (p < 0) = false := decide_eq_false h1
    by_cases h2 : p < k.ps.length
    rotate_left
    · have i3 : decide (p < (k.ps.length : Int)) = false := decide_eq_false h2
      have HL : Hid (liveB k.ps p = false) := Lib.hid (by unfold liveB; rw [i3, Bool.false_and, Bool.and_false])
      clear h1 h2
      go_wp2_with fail
      go_ret
      exact ⟨by rw [HL.out]; rfl, S1.out.bel⟩
    · have i3 : decide (p < (k.ps.length : Int)) = true := decide_eq_true h2
      obtain ⟨a, rfl⟩ := Int.eq_ofNat_of_zero_le (show 0 ≤ p by omega)
      have ha : a < k.ps.length := by omega
      obtain ⟨b, off, eap, -, -, -, pc3⟩ := PsX.proc (S1.out.g 0 rfl) a ha
      subst eap
      obtain ⟨l, hl⟩ : ∃ l, l = k.ps[a].live := ⟨_, rfl⟩
      rw [← hl] at pc3
      have HL : Hid (liveB k.ps (a : Int) = l) := Lib.hid ((live_at ha).1.trans hl.symm)
      have a0 : (0 : Int) ≤ (a : Int) := by omega
      have a1 : (a : Int) < (k.ps.length : Int) := h2
      clear hl h1 h2
      clear k5
      obtain ⟨-, -, -, -, -, k5⟩ := cells6 (S1.out.at 0 rfl)
      go_wp2_with fail
      go_ret
      exact ⟨by rw [HL.out]; rfl, S1.out.bel⟩
end Go.Proofs.YtinoogmaikhpjaaGreatDoor
namespace Go.Proofs.YtinoogmaikhpjaaGreatDoor
open Go.RowKit Go.Shelf
theorem th4 {X : Nat → Prop} {w : World} {P Q R S : Thing} (f : Firm P) (h : P X w) (g : Firm Q) (k : Q X w) (e : Firm R) (m : R X w) (d : Firm S) (n : S X w) : ∀ U ∈ [P, Q, R, S], Firm U ∧ U X w := fun U hU => by
  simp only [List.mem_cons, List.not_mem_nil, or_false] at hU
  rcases hU with rfl | rfl | rfl | rfl
  · exact ⟨f, h⟩
  · exact ⟨g, k⟩
  · exact ⟨e, m⟩
  · exact ⟨d, n⟩
end Go.Proofs.YtinoogmaikhpjaaGreatDoor
namespace Go.Proofs.YtinoogmaikhpjaaGreatDoor
def LikeD (x y : DescL) : Prop := x.ino = y.ino ∧ x.rd = y.rd ∧ x.wr = y.wr
def OwnT2 (t t' : TabL) (q : Int) : Prop := ∀ m : Int, hasT t' q m = hasT t q m ∧ placeT t' q m = placeT t q m ∧ LikeD (foundT t' q m) (foundT t q m)
theorem OwnT2.rfl' (t : TabL) (q : Int) : OwnT2 t t q := fun _ => ⟨rfl, rfl, rfl, rfl, rfl⟩
def Owns (k k' : KernL) (q : Int) : Prop := k'.ps.length = k.ps.length ∧ (∀ a : Nat, q = a → k'.ps[a]? = k.ps[a]?) ∧ OwnT2 k.t k'.t q
theorem Owns.rfl' (k : KernL) (q : Int) : Owns k k q := ⟨rfl, fun _ _ => rfl, OwnT2.rfl' _ _⟩
end Go.Proofs.YtinoogmaikhpjaaGreatDoor
namespace Go.Proofs.YtinoogmaikhpjaaGreatDoor
structure OpenW (k : KernL) (p fr : Int) (c : CallL) (l : List NodeL) (i : Nat) : Prop where
  live : liveB k.ps p = true
  cnt : countT k.t p ≠ 8
  base : baseK k p c.fd = (fr, 0)
  eq : doK k p c = (⟨openedL l i 1, k.most, k.room, (openT k.t p (newD c.flags i)).1, k.ps⟩, numR (openT k.t p (newD c.flags i)).2.1)
  kind : (nd l i).kind ≠ 0
  rig : RigK (withD k l)
  way : (∃ (s : SpotL) (d : Nat), hasF c.flags 4 = true ∧ walkL k.l (procL k.ps p).who fr c.path false = (s, 0) ∧ Entered k.l l (procL k.ps p).who fr c.path s d i (ownN (fileN (maskI c.mode (procL k.ps p).umask)) (procL k.ps p).who))
    ∨ ((walkL k.l (procL k.ps p).who fr c.path (followB c.flags)).2 = 0 ∧ (walkL k.l (procL k.ps p).who fr c.path (followB c.flags)).1.ino = i ∧ (nd k.l i).kind ≠ 0 ∧ fitE (nd k.l i) (procL k.ps p).who c.flags (onlyB c.flags) = 0
      ∧ l = (fitL k.l k.room (procL k.ps p).who i c.flags (onlyB c.flags)).1 ∧ (fitL k.l k.room (procL k.ps p).who i c.flags (onlyB c.flags)).2 = 0)
theorem OpenW.after {k : KernL} (h : RigK k) {p fr : Int} {c : CallL} {l : List NodeL} {i : Nat} (w : OpenW k p fr c l i) : hasT (doK k p c).1.t p (doK k p c).2.n = true ∧ foundT (doK k p c).1.t p (doK k p c).2.n = { newD c.flags i with refs := 1 } ∧ SameW l (doK k p c).1.l
    ∧ (nd (doK k p c).1.l i).kind = (nd l i).kind ∧ (nd (doK k p c).1.l i).data = (nd l i).data ∧ (nd (doK k p c).1.l i).kind ≠ 0 := by
  have h0 := open_goes h.tab (h.in_live w.live) w.cnt (newD c.flags i)
  obtain ⟨a1, a2, a3, _⟩ := back_open h.tab h0
  have hpos : 0 < (nd l i).opn + 1 := by
    have := w.rig.opn i w.kind
    show 0 < (nd (withD k l).l i).opn + 1
    omega
  rw [w.eq]
  refine ⟨a1, a3, opened_seen w.kind (.inr (.inr hpos)), ?_, ?_, ?_⟩
  · show (nd (openedL l i 1) i).kind = _
    rw [opened_nd w.kind, if_pos rfl]
    exact (atN_kind hpos).1
  · show (nd (openedL l i 1) i).data = _
    rw [opened_nd w.kind, if_pos rfl]
    unfold atN
    rw [if_neg (by omega)]
    rfl
  · show (nd (openedL l i 1) i).kind ≠ 0
    rw [opened_nd w.kind, if_pos rfl, (atN_kind hpos).1]
    exact w.kind
end Go.Proofs.YtinoogmaikhpjaaGreatDoor
namespace Go.Proofs.YtinoogmaikhpjaaGreatDoor
open Go.RowKit Go.Shelf Go.Lib Go.Extern.Stop Go.Stop Go.Extern
abbrev kfaultV (n : Int) : Value := .iface 108 (.int .i64 n)
abbrev klostV (p : ByteArray) (n : Int) : Value := .iface 197 (.agg #[.string p, kfaultV n])
def ErrK (n : Int) (v : Value) : Prop := (n = 0 ∧ v = .nilIface) ∨ (n ≠ 0 ∧ (v = kfaultV n ∨ ∃ p, v = klostV p n))
theorem ErrK.nil : ErrK 0 .nilIface := .inl ⟨rfl, rfl⟩
theorem ErrK.fault {n : Int} (h : n ≠ 0) : ErrK n (kfaultV n) := .inr ⟨h, .inl rfl⟩
theorem ErrK.failed {n : Int} (h : n ≠ 0) (p : ByteArray) : ErrK n (klostV p n) := .inr ⟨h, .inr ⟨p, rfl⟩⟩
theorem ErrK.ok {v : Value} (h : ErrK 0 v) : v = .nilIface := h.elim (·.2) fun h => absurd rfl h.1
theorem ErrK.no {n : Int} {v : Value} (h : ErrK n v) (hn : n ≠ 0) : ∃ t x, v = .iface t x := by
  rcases h with h | ⟨_, rfl | ⟨p, rfl⟩⟩
  · exact absurd h.1 hn
  · exact ⟨_, _, rfl⟩
  · exact ⟨_, _, rfl⟩
end Go.Proofs.YtinoogmaikhpjaaGreatDoor
namespace Go.Proofs.YtinoogmaikhpjaaGreatDoor
open Go.RowKit Go.Shelf
attribute [local go_sem ↓] Go.wp_at_zero Go.wp_at_succ
section
variable {ps : List ProcL} {X : Nat → Prop} {W : World} {b off cp : Nat}
theorem PsX.rng (h : PsX ps (.slice (some ⟨b, off, none⟩) ps.length cp) X W) (a : Nat) (ha : a < ps.length) : W.rangeAt b (off + a * 4) (prcells ps[a]) := by
  obtain ⟨b', o', e, hr⟩ := h.range a ha
  injection e with e; injection e with e1 e2 _; subst e1; subst e2; exact hr
end
end Go.Proofs.YtinoogmaikhpjaaGreatDoor
namespace Go.Proofs.YtinoogmaikhpjaaGreatDoor
open Go.RowKit Go.Shelf
attribute [local go_sem ↓] Go.wp_at_zero Go.wp_at_succ
def inD (t : TabL) (i : Int) : Bool := decide (0 ≤ i) && decide (i < t.ds.length)
set_option maxRecDepth 100000 in
set_option maxHeartbeats 4000000 in
theorem phas_c {X : Nat → Prop} (t : TabL) (ad af : Option Addr) (cap capf : Nat) (w : World) (hT : TabX t (.slice ad t.ds.length cap) (.slice af t.fs.length capf) X w) (p : Int) :
    Calls Tryz.prog 57 #[tabV ad t.ds.length cap af t.fs.length capf, .int .i64 p] w fun e w' => e = .returned (.bool (inT t p)) ∧ Below w.heap.size w w' := by
  have S0 := Lib.hid (Sf.start (w := w) (X := fun _ => False) (G := [TabX t (.slice ad t.ds.length cap) (.slice af t.fs.length capf)]) (fun _ h => h.elim) (th1 (TabX.firm _ _ _) ((TabX.firm _ _ _).sub hT fun _ h => h.elim)))
  clear hT
  go_enter Tryz.func57, Tryz.ntmps57
  go_upto_region 1 with (fail)
  refine code_fresh1 ?_
  intro W1 hb hA0 hs
  have S1 := Lib.hid (S0.out.new1 hb hA0)
  clear hb hA0 hs
  obtain ⟨d0, d1⟩ := cells2 (S1.out.at 0 rfl)
  by_cases h1 : p < 0
  · have i1 : decide (0 ≤ p) = false := decide_eq_false (by omega)
    have HB : Hid ((inT t p) = false) := Lib.hid (by unfold inT; rw [i1]; rfl)
    go_wp2_with fail
    go_ret
    exact ⟨by rw [HB.out]; rfl, S1.out.bel⟩
  · have i1 : decide (0 ≤ p) = true := decide_eq_true (by omega)
    obtain ⟨a, rfl⟩ := Int.eq_ofNat_of_zero_le (show 0 ≤ p by omega)
    have a0 : (0 : Int) ≤ (a : Int) := by omega
    clear h1
    by_cases h2 : a < t.fs.length
    · have iL1 : decide (a < t.fs.length) = true := decide_eq_true (by omega)
      have iM1 : decide ((a : Int) < (t.fs.length : Int)) = true := decide_eq_true (by omega)
      have HB : Hid ((inT t (a : Int)) = true) := Lib.hid (by unfold inT; rw [iM1, i1]; rfl)
      clear i1 h2
      go_wp2_with fail
      go_ret
      exact ⟨by rw [HB.out]; rfl, S1.out.bel⟩
    · have iL1 : decide (a < t.fs.length) = false := decide_eq_false (by omega)
      have iM1 : decide ((a : Int) < (t.fs.length : Int)) = false := decide_eq_false (by omega)
      have HB : Hid ((inT t (a : Int)) = false) := Lib.hid (by unfold inT; rw [iM1, i1]; rfl)
      clear i1 h2
      go_wp2_with fail
      go_ret
      exact ⟨by rw [HB.out]; rfl, S1.out.bel⟩
set_option maxRecDepth 100000 in
set_option maxHeartbeats 4000000 in
theorem phasD_c {X : Nat → Prop} (t : TabL) (ad af : Option Addr) (cap capf : Nat) (w : World) (hT : TabX t (.slice ad t.ds.length cap) (.slice af t.fs.length capf) X w) (p : Int) :
    Calls Tryz.prog 42 #[tabV ad t.ds.length cap af t.fs.length capf, .int .i64 p] w fun e w' => e = .returned (.bool (inD t p)) ∧ Below w.heap.size w w' := by
  have S0 := Lib.hid (Sf.start (w := w) (X := fun _ => False) (G := [TabX t (.slice ad t.ds.length cap) (.slice af t.fs.length capf)]) (fun _ h => h.elim) (th1 (TabX.firm _ _ _) ((TabX.firm _ _ _).sub hT fun _ h => h.elim)))
  clear hT
  go_enter Tryz.func42, Tryz.ntmps42
  go_upto_region 1 with (fail)
  refine code_fresh1 ?_
  intro W1 hb hA0 hs
  have S1 := Lib.hid (S0.out.new1 hb hA0)
  clear hb hA0 hs
  obtain ⟨d0, d1⟩ := cells2 (S1.out.at 0 rfl)
  by_cases h1 : p < 0
  · have i1 : decide (0 ≤ p) = false := decide_eq_false (by omega)
    have HB : Hid ((inD t p) = false) := Lib.hid (by unfold inD; rw [i1]; rfl)
    go_wp2_with fail
    go_ret
    exact ⟨by rw [HB.out]; rfl, S1.out.bel⟩
  · have i1 : decide (0 ≤ p) = true := decide_eq_true (by omega)
    obtain ⟨a, rfl⟩ := Int.eq_ofNat_of_zero_le (show 0 ≤ p by omega)
    have a0 : (0 : Int) ≤ (a : Int) := by omega
    clear h1
    by_cases h2 : a < t.ds.length
    · have iL1 : decide (a < t.ds.length) = true := decide_eq_true (by omega)
      have iM1 : decide ((a : Int) < (t.ds.length : Int)) = true := decide_eq_true (by omega)
      have HB : Hid ((inD t (a : Int)) = true) := Lib.hid (by unfold inD; rw [iM1, i1]; rfl)
      clear i1 h2
      go_wp2_with fail
      go_ret
      exact ⟨by rw [HB.out]; rfl, S1.out.bel⟩
    · have iL1 : decide (a < t.ds.length) = false := decide_eq_false (by omega)
      have iM1 : decide ((a : Int) < (t.ds.length : Int)) = false := decide_eq_false (by omega)
      have HB : Hid ((inD t (a : Int)) = false) := Lib.hid (by unfold inD; rw [iM1, i1]; rfl)
      clear i1 h2
      go_wp2_with fail
      go_ret
      exact ⟨by rw [HB.out]; rfl, S1.out.bel⟩
end Go.Proofs.YtinoogmaikhpjaaGreatDoor
namespace Go.Proofs.YtinoogmaikhpjaaGreatDoor
open Go.RowKit Go.Shelf
attribute [local go_sem ↓] Go.wp_at_zero Go.wp_at_succ
set_option maxRecDepth 100000 in
set_option maxHeartbeats 4000000 in
theorem pcount_c {X : Nat → Prop} (t : TabL) (ad af : Option Addr) (cap capf : Nat) (w : World) (hT : TabX t (.slice ad t.ds.length cap) (.slice af t.fs.length capf) X w) (p : Int) (hz : SizeT t) (hr : RightT t) :
    Calls Tryz.prog 44 #[tabV ad t.ds.length cap af t.fs.length capf, .int .i64 p] w fun e w' => e = .returned (.int .i64 (countT t p)) ∧ Below w.heap.size w w' := by
  have S0 := Lib.hid (Sf.start (w := w) (X := fun _ => False) (G := [TabX t (.slice ad t.ds.length cap) (.slice af t.fs.length capf)]) (fun _ h => h.elim) (th1 (TabX.firm _ _ _) ((TabX.firm _ _ _).sub hT fun _ h => h.elim)))
  have HZ := Lib.hid hz
  have HRR := Lib.hid hr
  clear hT hz hr
  go_enter Tryz.func44, Tryz.ntmps44
  go_upto_region 1 with (fail)
  refine code_fresh1 ?_
  intro W1 hb hA0 hs
  have S1 := Lib.hid (S0.out.new1 hb hA0)
  clear hb hA0 hs
  have h_d := (S1.out.at 0 rfl)
  go_wp2_with (first | (refine wpList_load_row rfl 28 _ rfl _ rfl 28 _ (0, 0) _ h_d Tryz.underlying28 rfl (by kernel_rfl) ?_))
  refine (phas_c t _ _ _ _ _ (S1.out.g 0 rfl) p).mono ?_
  rintro e W2 ⟨rfl, hb⟩
  clear h_d
  have S2 := Lib.hid (S1.out.call hb)
  clear hb
  cases hin : inT t p with
  | false =>
    have HC : Hid (countT t p = 0) := Lib.hid (by unfold countT; rw [hin]; rfl)
    clear hin
    go_wp2_with fail
    go_ret
    exact ⟨by rw [HC.out]; rfl, S2.out.bel⟩
  | true =>
    obtain ⟨a, rfl, ha⟩ := in_T hin
    have HC : Hid (countT t (a : Int) = countR (rowT t (a : Int))) := Lib.hid (by unfold countT; rw [hin]; rfl)
    clear hin
    have a0 : (0 : Int) ≤ (a : Int) := by omega
    have a1 : (a : Int) < (t.fs.length : Int) := by omega
    obtain ⟨b, off, ar, cr, eaf, _, cR, hR⟩ := TabX.row (S2.out.g 0 rfl) a ha
    subst eaf
    have hrr : ∀ x ∈ t.fs[a], -1 ≤ x := fun x hx => ((HRR.out.1 _ (List.getElem_mem ha)).2 x hx).1
    have hr8 : (t.fs[a]).length ≤ 20 := HZ.out.2.2 _ (List.getElem_mem ha)
    rw [row_at ha] at HC
    obtain ⟨r, hrow⟩ : ∃ r, r = t.fs[a] := ⟨_, rfl⟩
    rw [← hrow] at cR hR HC hrr hr8
    clear hrow
    obtain ⟨d0, d1⟩ := cells2 (S2.out.at 0 rfl)
    go_wp2_with fail
    go_loop [5, 18] (fun n i => ∃ k : Nat, n = .int .i64 (countR (r.take k)) ∧ i = .int .i64 k ∧ k ≤ r.length) (fun _ i => r.length - (RowKit.intOf i).toNat)
    case atStart => exact ⟨0, rfl, rfl, Nat.zero_le _⟩
    case round =>
      obtain ⟨k, rfl, rfl, hk⟩ := hrel
      by_cases hlt : k < r.length
      · have iL1 : decide (k < r.length) = true := decide_eq_true (by omega)
        have iM1 : decide ((k : Int) < (r.length : Int)) = true := decide_eq_true (by omega)
        have k0 : (0 : Int) ≤ (k : Int) := by omega
        have k1 : (k : Int) < (r.length : Int) := by omega
        have wk : IntKind.i64.wrap ((k : Int) + 1) = (k : Int) + 1 := Go.IntWalk.i64_in _ (by omega)
        obtain ⟨b2, off2, ear, cI⟩ := RdX.int hR k hlt
        subst ear
        have HS := Lib.hid (count_step r k hlt)
        have hcl : countR (r.take k) ≤ 20 := by have := count_le (r.take k); rw [List.length_take] at this; omega
        have hvr := hrr _ (List.getElem_mem hlt)
        obtain ⟨c, hc⟩ : ∃ c, c = countR (r.take k) := ⟨_, rfl⟩
        rw [← hc] at HS hcl ⊢
        clear hc
        obtain ⟨v, hv⟩ : ∃ v, v = r[k] := ⟨_, rfl⟩
        rw [← hv] at cI HS hvr
        clear hv
        have wc : IntKind.i64.wrap ((c : Int) + 1) = (c : Int) + 1 := Go.IntWalk.i64_in _ (by omega)
        by_cases h5 : v = -1
        · subst h5
          have HS2 : Hid (countR (r.take (k + 1)) = c) := Lib.hid (by rw [HS.out, if_neg (by omega), Nat.add_zero])
          go_wp2_with fail
          go_round
          case rel => exact ⟨k + 1, by rw [HS2.out], by go_num, hlt⟩
          case measure => simp [RowKit.intOf]; omega
        · have i5 : decide (v = -1) = false := decide_eq_false h5
          have i6 : (v == -1) = false := by rw [beq_eq_false_iff_ne]; exact h5
          have i7 : (v != -1) = true := by rw [bne_iff_ne]; exact h5
          have HS2 : Hid (countR (r.take (k + 1)) = c + 1) := Lib.hid (by rw [HS.out, if_pos (by omega)])
          clear h5
          go_wp2_with fail
          go_round
          case rel => exact ⟨k + 1, by rw [HS2.out]; go_num, by go_num, hlt⟩
          case measure => simp [RowKit.intOf]; omega
      · have iL1 : decide (k < r.length) = false := decide_eq_false (by omega)
        have iM1 : decide ((k : Int) < (r.length : Int)) = false := decide_eq_false (by omega)
        have ht : r.take k = r := List.take_of_length_le (by omega)
        rw [ht]
        clear ht hlt
        go_wp2_with fail
        go_ret
        exact ⟨by rw [HC.out]; rfl, S2.out.bel⟩
end Go.Proofs.YtinoogmaikhpjaaGreatDoor
namespace Go.Proofs.YtinoogmaikhpjaaGreatDoor
open Go.RowKit Go.Shelf
theorem made_at (z : Array Value) (n j : Nat) (hj : j < n) : (madeCells z n).toList[j]? = some z[j % z.size]! := by
  rw [Array.getElem?_toList]
  simp [madeCells, hj]
theorem made_one (z : Value) (n : Nat) : (madeCells #[z] n).toList = List.replicate n z := by
  apply List.ext_getElem?
  intro j
  rcases Nat.lt_or_ge j n with hj | hj
  · rw [made_at _ _ _ hj, List.getElem?_replicate, if_pos hj, show (#[z] : Array Value).size = 1 from rfl, Nat.mod_one]
    rfl
  · rw [List.getElem?_eq_none (by rw [Array.length_toList, size_madeCells]; exact hj), List.getElem?_eq_none (by rw [List.length_replicate]; exact hj)]
theorem own_ints {W : World} {base : Nat} {e : TypeId} {v : Value} {n : Nat} (h : W.ownsRow base e 1 v n (madeCells #[.int .i64 0] (n * 1)).toList) : W.ownsRow base e 1 v (List.replicate n (0 : Int)).length (intC (List.replicate n 0)) := by
  rw [made_one, Nat.mul_one] at h
  rw [List.length_replicate]
  unfold intC
  rw [List.map_replicate]
  exact h
section
variable {tD tS tI : TypeId} {base : Nat} {t : TabL} {vd vf : Value} {rows : List RowV} {X : Nat → Prop} {W W' : World}
def noRow : RowV := ([], .slice none 0 0)
theorem OwnT.start {ds : List DescL} {n : Nat} (h : OwnT tD tS tI base ⟨ds, []⟩ vd (.slice none 0 0) [] W) (ho : W.ownsRow base tS 1 vf n (madeCells #[.slice none 0 0] (n * 1)).toList) : OwnT tD tS tI base ⟨ds, List.replicate n []⟩ vd vf (List.replicate n noRow) W := by
  refine ⟨by rw [List.map_replicate]; rfl, h.ds, ?_, fun m hm => ?_, fun i j a b ha _ _ g hg => ?_⟩
  · rw [made_one, Nat.mul_one] at ho
    rw [List.length_replicate, List.map_replicate]
    exact ho
  · obtain rfl := List.eq_of_mem_replicate hm
    exact World.ownsRow_nil _ _ _ _
  · obtain rfl := List.eq_of_mem_replicate (List.mem_of_getElem? ha)
    cases hg
end
end Go.Proofs.YtinoogmaikhpjaaGreatDoor
