/-
  The document's New; Same of tables that are the same.
-/
import Derived.Test.YtbcmhjgjcknfmaaHdlRefC
namespace Go.Proofs.Ytbcmhjgjcknfmaa
open Go.RowKit Go.Shelf
attribute [local go_sem ↓] Go.wp_at_zero Go.wp_at_succ

theorem own_block {W : World} {b g n s : Nat} {e : TypeId} {cs : Array Value} (h : W.heap[g]? = some (.cells cs e (0, 0))) (hb : b ≤ g) (hn : n ≤ maxLen) (hs : cs.size = n * s) : W.ownsRow b e s (.slice (some ⟨g, 0, none⟩) n n) n cs.toList :=
  ⟨by simpa using hs, .inr ⟨g, n, cs, rfl, hb, h, Nat.le_refl _, hn, hs, List.take_of_length_le (by rw [Array.length_toList, hs]; exact Nat.le_refl _)⟩⟩
theorem new_len (n : Int) : (newT n).ds.length = 0 := by unfold newT; split <;> rfl
set_option maxRecDepth 100000 in
set_option maxHeartbeats 4000000 in
theorem rnewH_c (X : Nat → Prop) (n : Int) (w : World) (hX : Old X w) : Calls Try.prog 30 #[.int .i64 n] w fun e w' => TabIs X (newT n) e w w' := by
  have S0 := Lib.hid (Sf.start (G := []) hX th0)
  have HRET : Hid (∀ (W : World) (cs : Array Value) (fr), W.heap[w.heap.size + 0]? = some (.cells cs 32 fr) → cs.size = 2 → ∀ tmps : Array Value, tmps.getD 2 undef = .pointer (some ⟨w.heap.size + 0, 0, none⟩) → (results Try.f30 tmps).run Try.prog W = .ok (.agg cs) W) := Lib.hid fun W cs fr h hs tmps ht =>
  results_cell_row (p := 2)  (ty := 32) rfl tmps W (w.heap.size + 0) _ cs fr _ ht h Try.underlying32 rfl (by rw [hs]; kernel_rfl)
  obtain ⟨iR, hR, hRz, hRs, hRb⟩ := info_parts infoRow
  have HOLD := Lib.hid hX
  clear hX
  go_enter Try.func30, Try.ntmps30
  go_upto_region 2 with (fail)
  refine code_fresh2 ?_
  intro W1 hb hA0 hA1 hs
  have S1 := Lib.hid (S0.out.new2 hb hA0 hA1)
  clear hb hA0 hA1 hs
  by_cases h1 : 8 < n
  · have i1 : decide (8 < n) = true := decide_eq_true h1
    have HR : Hid (newT n = ⟨[], []⟩) := Lib.hid (if_pos h1)
    go_upto_region 3 with (fail)
    have h_r := (S1.out.at 0 rfl)
    have h_o := (S1.out.at 1 rfl)
    go_wp2_with (first | (refine wpList_load_row rfl 32 _ rfl _ rfl 32 _ (0, 0) _ h_o Try.underlying32 rfl (by kernel_rfl) ?_) | (refine wpList_store_row rfl 32 _ _ rfl _ rfl rfl h_r rfl (by kernel_rfl) rfl ?_; intro W2 hb hg hs hn; have S2 := Lib.hid (S1.out.set 0 rfl hb hg hs hn); clear hb hg hs hn))
    refine bodyPost_ret (HRET.out _ _ _ (S2.out.at 0 rfl) rfl _ rfl) rfl ?_
    rw [HR.out]
    exact ⟨_, _, rfl, (OwnT.nil 39 65 3 (base := w.heap.size) (ds := []) (World.ownsRow_nil _ _ _ _)).tab HOLD.out, S2.out.bel⟩
  · have i1 : decide (8 < n) = false := decide_eq_false h1
    have HR : Hid (newT n = ⟨[], List.replicate n.toNat (List.replicate 8 (-1))⟩) := Lib.hid (if_neg h1)
    have HO := Lib.hid (OwnT.nil 39 65 3 (base := w.heap.size) (ds := []) (World.ownsRow_nil W1 w.heap.size 39 6))
    go_wp2_with fail
    go_loopw [4] (fun i wr => ∃ (k : Nat) (vf : Value) (rows : List RowV), i = .int .i64 k ∧ k ≤ n.toNat ∧ Hid (Sf X w [(w.heap.size, #[.slice none 0 0, .slice none 0 0], 32), (w.heap.size + 1, #[.slice none 0 0, vf], 32)] [] wr) ∧ Hid (OwnT 39 65 3 w.heap.size ⟨[], List.replicate k [-1, -1, -1, -1, -1, -1, -1, -1]⟩ (.slice none 0 0) vf rows wr)) (fun i _ => n.toNat - (RowKit.intOf i).toNat)
    case atStart => exact ⟨0, _, [], rfl, Nat.zero_le _, S1, HO⟩
    case round =>
      clear S1 HO
      obtain ⟨k, vf, rows, rfl, hk, S6, HO⟩ := hrel
      by_cases hlt : (k : Int) < n
      · have iL : decide ((k : Int) < n) = true := decide_eq_true hlt
        have w1 : IntKind.i64.wrap ((k : Int) + 1) = (k : Int) + 1 := Go.IntWalk.i64_in _ (by omega)
        obtain ⟨aof, cpf, rfl⟩ := own_form HO.out.out
        have hrows : rows.length = k := by have := rows_len HO.out.fs; rw [this]; exact List.length_replicate ..
        subst hrows
        obtain ⟨o0, o1⟩ := cells2 (S6.out.at 1 rfl)
        have fo := fun j => Lib.frozen_of_heap (S6.out.at 1 rfl) j
        go_upto_region 6 with (first
          | (refine wpList_fresh1 ?_; intro W7 hb7 hA7 hs7; have S7 := Lib.hid (S6.out.call hb7); have hr7 : W7.ownsRow w.heap.size 3 1 (.slice (some ⟨wr.heap.size, 0, none⟩) 8 8) 8 (intC [-1, -1, -1, -1, -1, -1, -1, -1]) := own_block hA7 S6.out.bel.size (by decide) rfl; clear o0 o1 fo hs7; obtain ⟨o0, o1⟩ := cells2 (S7.out.at 1 rfl); have fo := fun j => Lib.frozen_of_heap (S7.out.at 1 rfl) j)
          | (refine wpList_fresh1 ?_; intro W8 hb8 hA8 hs8; have S8 := Lib.hid (S7.out.call hb8); have hb78 := ret_tr hb7 hb8; clear o0 o1 fo hs8; obtain ⟨o0, o1⟩ := cells2 (S8.out.at 1 rfl); have fo := fun j => Lib.frozen_of_heap (S8.out.at 1 rfl) j)
          | (at_builtin; go_loud (refine wpList_append_lies W8 rfl (.tmp 15) (.tmp 17) 23 rfl w.heap.size 65 iR _ 1 24 Try.underlying23 hR hRz hRs hRb rfl (by decide) (.slice aof rows.length cpf) rows.length (rows.map (·.2)) rfl (HO.out.below hb78).out ⟨W7.heap.size, 0, none⟩ 1 1 [.slice (some ⟨wr.heap.size, 0, none⟩) 8 8] rfl rfl (World.news_of_block (cs := #[.slice (some ⟨wr.heap.size, 0, none⟩) 8 8]) (t := 65) (fr := (0, 0)) hA8) (fun u hu => by rw [List.mem_singleton] at hu; subst hu; rfl) (by decide) (by unfold maxLen; omega) (by omega) S8.out.bel.size _ rfl ?_); intro gg cp2 W11 hown11 hgr11 hat11 hlt11; have S11 := Lib.hid (S8.out.grown (fun P hP => by cases hP) hgr11 (fun g e => ⟨((HO.out.below hb78).out.lt g e).1, S8.out.apart (HO.out.below hb78).out rfl g e⟩)); have HO11 := Lib.hid (HO.out.push (r := [-1, -1, -1, -1, -1, -1, -1, -1]) hb78 (ownsRow_below hr7 hb8 (Nat.le_refl _)) (fun g e => Nat.le_of_eq (Option.some.inj e)) hown11 hgr11 (by decide) (by decide)); clear o0 o1 fo; obtain ⟨o0, o1⟩ := cells2 (S11.out.at 1 rfl); have fo := fun j => Lib.frozen_of_heap (S11.out.at 1 rfl) j))
        have hold := S11.out.at 1 rfl
        refine code_set1 hold ?_
        intro W12 hb hg hs hn
        clear o0 o1 fo
        have S12 := Lib.hid (S11.out.set 1 rfl hb hg hs hn)
        have HO12 := Lib.hid (HO11.out.other hold (by decide) (by decide) (by decide) hg)
        rw [show List.replicate rows.length [-1, -1, -1, -1, -1, -1, -1, -1] ++ [[-1, -1, -1, -1, -1, -1, -1, -1]] = List.replicate (rows.length + 1) [-1, -1, -1, -1, -1, -1, -1, -1] from List.replicate_succ'.symm] at HO12
        clear hb hg hs hn hold
        go_wp2_with fail
        go_roundw
        case rel => exact ⟨rows.length + 1, .slice (some ⟨gg, 0, none⟩) (rows.length + 1) cp2, _, by go_num, by omega, S12, HO12⟩
        case measure => simp [RowKit.intOf]; omega
      · have iL : decide ((k : Int) < n) = false := decide_eq_false hlt
        have hke : k = n.toNat := by omega
        subst hke
        obtain ⟨aof, cpf, rfl⟩ := own_form HO.out.out
        have hrows : rows.length = n.toNat := by have := rows_len HO.out.fs; rw [this]; exact List.length_replicate ..
        have h_o := S6.out.at 1 rfl
        have h_r := S6.out.at 0 rfl
        go_wp2_with (first | (refine wpList_load_row rfl 32 _ rfl _ rfl 32 _ (0, 0) _ h_o Try.underlying32 rfl (by kernel_rfl) ?_) | (refine wpList_store_row rfl 32 _ _ rfl _ rfl rfl h_r rfl (by kernel_rfl) rfl ?_; intro W7 hb hg hs hn; have S7 := Lib.hid (S6.out.set 0 rfl hb hg hs hn); have HO7 := Lib.hid (HO.out.other h_r (by decide) (by decide) (by decide) hg); clear hb hg hs hn))
        refine bodyPost_ret (HRET.out _ _ _ (S7.out.at 0 rfl) rfl _ rfl) rfl ?_
        rw [HR.out]
        exact ⟨_, _, rfl, HO7.out.tab HOLD.out, S7.out.bel⟩
end Go.Proofs.Ytbcmhjgjcknfmaa
