/-
  its, small, fine, stays: what is looked at of a table.
-/
import Derived.Test.YtfcjmcenaankfaaHdlRefG
import Derived.Test.YtfcjmcenaankfaaHdlLaws
namespace Go.Proofs.Ytfcjmcenaankfaa
open Go.RowKit Go.Shelf
attribute [local go_sem ↓] Go.wp_at_zero Go.wp_at_succ

theorem TabX.newD {t : TabL} {vd vd' vf : Value} {X : Nat → Prop} {W : World} (h : TabX t vd vf X W) (hd : RdX 6 vd' t.ds.length (cellsD t.ds) X W) : TabX t vd' vf X W := by
  obtain ⟨rows, e, _, h2, h3⟩ := h
  exact ⟨rows, e, hd, h2, h3⟩
def smallB (t : TabL) : Bool := t.fs.all (fun r => decide (r.length ≤ 20)) && (decide (t.ds.length ≤ 100) && decide (t.fs.length ≤ 20))
theorem small_B {t : TabL} : smallB t = true ↔ SizeM 100 t := by
  unfold smallB SizeM
  simp only [Bool.and_eq_true, decide_eq_true_iff, List.all_eq_true]
  constructor
  · rintro ⟨h1, h2, h3⟩; exact ⟨h2, h3, h1⟩
  · rintro ⟨h1, h2, h3⟩; exact ⟨h3, h1, h2⟩
theorem size_T {m : Nat} {t : TabL} (h : SizeM m t) (hm : m ≤ 1000) : SizeT t := ⟨Nat.le_trans h.1 hm, h.2⟩
def fineB (t : TabL) : Bool := smallB t && rightB t
theorem fine_B {t : TabL} : fineB t = true ↔ SizeM 100 t ∧ RightT t := by unfold fineB; rw [Bool.and_eq_true, small_B, right_B]
set_option maxRecDepth 100000 in
set_option maxHeartbeats 4000000 in
theorem its_c (X : Nat → Prop) (t : TabL) (ad af : Option Addr) (cap capf : Nat) (w : World) (hX : Old X w) (hT : TabX t (.slice ad t.ds.length cap) (.slice af t.fs.length capf) X w) (hz : SizeT t) :
    Calls Try.prog 13 #[tabV ad t.ds.length cap af t.fs.length capf] w fun e w' => ∃ ad2 cap2, e = .returned (tabV ad2 t.ds.length cap2 af t.fs.length capf) ∧ TabX t (.slice ad2 t.ds.length cap2) (.slice af t.fs.length capf) X w' ∧ Below w.heap.size w w' := by
  have S0 := Lib.hid (Sf.start (G := [TabX t (.slice ad t.ds.length cap) (.slice af t.fs.length capf)]) hX (th1 (TabX.firm _ _ _) hT))
  have H0 := Lib.hid hT
  have HRET : Hid (∀ (W : World) (cs : Array Value) (fr), W.heap[w.heap.size + 1]? = some (.cells cs 33 fr) → cs.size = 2 → ∀ tmps : Array Value, tmps.getD 2 undef = .pointer (some ⟨w.heap.size + 1, 0, none⟩) → (results Try.f13 tmps).run Try.prog W = .ok (.agg cs) W) := Lib.hid fun W cs fr h hs tmps ht =>
  results_cell_row (p := 2)  (ty := 33) rfl tmps W (w.heap.size + 1) _ cs fr _ ht h Try.underlying33 rfl (by rw [hs]; kernel_rfl)
  obtain ⟨iD, hD, hDz, hDs, hDb⟩ := info_parts infoDescR
  have HOLD := Lib.hid hX
  have HZ := Lib.hid hz
  clear hX hT hz
  go_enter Try.func13, Try.ntmps13
  go_upto_region 1 with (fail)
  refine code_fresh2 ?_
  intro W1 hb hA0 hA1 hs
  have S1 := Lib.hid (S0.out.new2 hb hA0 hA1)
  clear hb hA0 hA1 hs
  obtain ⟨d0, d1⟩ := cells2 (S1.out.at 0 rfl)
  go_upto_region 2 with (first | (refine wpList_fresh1 ?_; intro W2 hb2 hA2 hs2; have S2 := Lib.hid (S1.out.call hb2); have HW := Lib.hid (show W2.ownsRow w.heap.size 55 6 (.slice (some ⟨W1.heap.size, 0, none⟩) 0 0) 0 (cellsD []) from own_mono (own_empty hA2) S1.out.bel.size); clear hb2 hA2 hs2 d0 d1; obtain ⟨d0, d1⟩ := cells2 (S2.out.at 0 rfl)))
  go_wp2_with fail
  go_loopw [3, 4] (fun v i wr => ∃ k : Nat, i = .int .i64 k ∧ k ≤ t.ds.length ∧ Hid (Sf X w [(w.heap.size, #[.slice ad t.ds.length cap, .slice af t.fs.length capf], 25), (w.heap.size + 1, #[.slice none 0 0, .slice none 0 0], 33)] [TabX t (.slice ad t.ds.length cap) (.slice af t.fs.length capf)] wr) ∧ Hid (wr.ownsRow w.heap.size 55 6 v k (cellsD (t.ds.take k)))) (fun _ i _ => t.ds.length - (RowKit.intOf i).toNat)
  case atStart => exact ⟨0, rfl, Nat.zero_le _, S2, HW⟩
  case round =>
    clear S2 HW d0 d1
    obtain ⟨k, rfl, hk, S5, HW⟩ := hrel
    have hl1 : t.ds.length ≤ 1000 := HZ.out.1
    obtain ⟨ao, cp, rfl⟩ := own_form HW.out
    obtain ⟨d0, d1⟩ := cells2 (S5.out.at 0 rfl)
    by_cases hlt : k < t.ds.length
    · have iL1 : decide (k < t.ds.length) = true := decide_eq_true (by omega)
      have iM1 : decide ((k : Int) < (t.ds.length : Int)) = true := decide_eq_true (by omega)
      have wk : IntKind.i64.wrap ((k : Int) + 1) = (k : Int) + 1 := Go.IntWalk.i64_in _ (by omega)
      have k0 : (0 : Int) ≤ (k : Int) := by omega
      have k1 : (k : Int) < (t.ds.length : Int) := by omega
      go_upto_region 5 with (fail)
      obtain ⟨b, off, ead, cD⟩ := TabX.range (S5.out.g 0 rfl) k hlt
      subst ead
      obtain ⟨y, hy⟩ : ∃ y, y = t.ds[k] := ⟨_, rfl⟩
      rw [← hy] at cD
      replace cD : wr.rangeAt b (off + k * 6) [.int .i64 y.ino, .int .i64 y.pos, .bool y.rd, .bool y.wr, .int .i64 y.refs, .int .i64 y.lock] := cD
      have HT := Lib.hid (show cellsD (t.ds.take (k + 1)) = cellsD (t.ds.take k) ++ dcells y by rw [hy, List.take_succ_eq_append_getElem hlt, cellsD_app]; congr 1)
      clear hy
      go_wp2_with (first
        | (refine wpList_load_mid rfl 44 _ rfl b (off + k * 6) rfl _ _ cD Try.underlying44 rfl (by kernel_rfl) ?_)
        | (refine wpList_fresh1 ?_; intro W6 hb6 hA6 hs6; have S6 := Lib.hid (S5.out.call hb6); have HW6 := Lib.hid (ownsRow_below HW.out hb6 (Nat.le_refl _)); clear hs6 d0 d1; obtain ⟨d0, d1⟩ := cells2 (S6.out.at 0 rfl))
        | (at_builtin; go_loud (refine wpList_append_lies W6 rfl (.tmp 13) (.tmp 19) 31 rfl w.heap.size 55 iD _ 6 40 Try.underlying31 hD hDz hDs hDb rfl (by decide) (.slice ao k cp) k (cellsD (t.ds.take k)) rfl HW6.out ⟨wr.heap.size, 0, none⟩ 1 1 (dcells y) rfl rfl (World.news_of_block (cs := #[.int .i64 y.ino, .int .i64 y.pos, .bool y.rd, .bool y.wr, .int .i64 y.refs, .int .i64 y.lock]) (t := 55) (fr := (0, 0)) hA6) (dcells_one y) (by decide) (by unfold maxLen; omega) (by omega) S6.out.bel.size _ rfl ?_); intro gg cp2 W7 ho7 hgr7 hat7 hlt7; have S7 := Lib.hid (S6.out.grown (fun P hP => by rw [List.mem_singleton] at hP; subst hP; exact H0.out) hgr7 (fun g e => ⟨(HW6.out.lt g e).1, S6.out.apart HW6.out rfl g e⟩)); have HW7 := Lib.hid (show W7.ownsRow w.heap.size 55 6 (.slice (some ⟨gg, 0, none⟩) (k + 1) cp2) (k + 1) (cellsD (t.ds.take (k + 1))) from (by rw [HT.out]; exact ho7)); clear ho7 hgr7 hat7 hlt7 d0 d1))
      go_roundw
      case rel => exact ⟨k + 1, by go_num, hlt, S7, HW7⟩
      case measure => simp [RowKit.intOf]; omega
    · have iL1 : decide (k < t.ds.length) = false := decide_eq_false (by omega)
      have iM1 : decide ((k : Int) < (t.ds.length : Int)) = false := decide_eq_false (by omega)
      have hke : k = t.ds.length := by omega
      subst hke
      have HV : Hid (wr.ownsRow w.heap.size 55 6 (.slice ao t.ds.length cp) t.ds.length (cellsD t.ds)) := Lib.hid (by have := HW.out; rw [List.take_length] at this; exact this)
      clear HW hlt
      have h_r := S5.out.at 1 rfl
      go_wp2_with (first | (refine wpList_store_row rfl 33 _ _ rfl _ rfl rfl h_r rfl (by kernel_rfl) rfl ?_; intro W7 hb hg hs hn; have S7 := Lib.hid (S5.out.set 1 rfl hb hg hs hn); have HV7 := Lib.hid (own_other HV.out (fun e => S5.out.apart HV.out rfl _ e _ (List.mem_of_getElem? (i := 1) rfl) rfl) hg); clear hb hg hs hn))
      refine bodyPost_ret (HRET.out _ _ _ (S7.out.at 1 rfl) rfl _ rfl) rfl ?_
      exact ⟨ao, cp, rfl, (S7.out.gX 0 rfl).newD (RdX.own HV7.out HOLD.out), S7.out.bel⟩
end Go.Proofs.Ytfcjmcenaankfaa
