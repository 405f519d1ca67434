/-
  The walk of StencilMore.
-/
import Derived.Test.YtoombpdoagjaoaaLaw2D
import Derived.Test.YtoombpdoagjaoaaKeepN
import Derived.Laws.AppendOwnNone
namespace Go.Proofs.Ytoombpdoagjaoaa
open Go.RowKit Go.Shelf
open Go.WideShapes (add_plain)

theorem ownE (W : World) : (W.alloc (.cells #[] 3)).ownsRow W.heap.size 3 1 (.slice (some ⟨W.heap.size, 0, none⟩) 0 0) 0 [] := World.ownsRow_lit (size := 1) W #[] 0 (Nat.le_refl _) (Nat.zero_le _) rfl
theorem own_sform {W : World} {base : Nat} {e : TypeId} {size : Nat} {v : Value} {n : Nat} {xs : List Value} (h : W.ownsRow base e size v n xs) : SliceForm v := by
  rcases h.2 with ⟨rfl, h0⟩ | ⟨g, cap, cur, rfl, _⟩
  · exact .inl rfl
  · exact .inr ⟨_, _, _, rfl⟩
theorem own_form {W : World} {base : Nat} {e : TypeId} {size : Nat} {v : Value} {n : Nat} {xs : List Value} (h : W.ownsRow base e size v n xs) : ∃ ao cap, v = .slice ao n cap := by
  rcases h.2 with ⟨rfl, h0⟩ | ⟨g, cap, cur, rfl, _⟩
  · exact ⟨none, 0, by rw [h0]⟩
  · exact ⟨_, cap, rfl⟩
def sliceLen : Value → Nat
  | .slice _ n _ => n
  | _ => 0
theorem pad_getD (zs : List Int) (r i : Nat) : (zs ++ List.replicate r 0).getD i 0 = zs.getD i 0 := by
  rw [List.getD_eq_getElem?_getD, List.getD_eq_getElem?_getD]
  rcases Nat.lt_or_ge i zs.length with h | h
  · rw [List.getElem?_append_left h]
  · rw [List.getElem?_append_right h, List.getElem?_eq_none h]
    rcases Nat.lt_or_ge (i - zs.length) r with h2 | h2
    · rw [List.getElem?_replicate, if_pos h2]; rfl
    · rw [List.getElem?_eq_none (by simpa using h2)]
theorem more_getD (L ms : List Int) (n i : Nat) (h : i < n) (hn : n ≤ L.length) : (L ++ ms).getD i 0 = L.getD i 0 := by
  rw [List.getD_eq_getElem?_getD, List.getD_eq_getElem?_getD, List.getElem?_append_left (by omega)]
theorem ints_news {W : World} {B : Nat} {ad : Addr} {n c : Nat} {zs : List Int} (h : RdI B .i64 (.slice (some ad) n c) zs W) : ∀ j u, (ints zs)[j]? = some u → W.cell? (ad.add j) = some u := by
  intro j u hj
  obtain ⟨ao, cap, e1, h⟩ := h
  have hlt : j < zs.length := by
    have := (List.getElem?_eq_some_iff.1 hj).1
    simpa [ints] using this
  obtain ⟨b, off, rfl, _, hc⟩ := h (fun e => by rw [e] at hlt; simp at hlt)
  injection e1 with e1 _ _
  injection e1 with e1
  subst e1
  have := hc j hlt
  rw [add_plain, this]
  have hu : (ints zs)[j]? = some (.int .i64 zs[j]) := by simp [ints, hlt]
  rw [hu] at hj
  exact hj
theorem ints_one (zs : List Int) : ∀ u ∈ ints zs, u.oneCell' = true := by
  intro u hu
  obtain ⟨z, _, rfl⟩ := List.mem_map.1 hu
  rfl

/-- An append of a slice that reads as a list of ints, nil or not, behind a guard or not. -/
theorem wpList_append_src {P : Program} {w : World} {ops : Array Oper} {rest : List Oper} {o : Oper} {a : Act} {Q : Exit → Act → World → Prop} (hw : Region.wanted o (yielded ops a.tmps) = true) (s x : Operand) (t : TypeId)
    (ho : o.op = .call { callee := .builtin .append, args := #[s, x], argTypes := #[t, t] })
    (base : Nat) (e : TypeId) (i : TypeInfo) (ht : P.underlying t = some (.slice e)) (hi : P.info? e = some i) (hz : i.zero = some (.int .i64 0)) (hsize : i.size = 1) (hby : i.bytes = 8)
    (v : Value) (n : Nat) (xs : List Value) (hs : a.eval s = v) (hown : w.ownsRow base e 1 v n xs) (B : Nat) (vx : Value) (ms : List Int) (hx : a.eval x = vx) (hf : SliceForm vx) (hr : RdI B .i64 vx ms w)
    (h63 : n + ms.length ≤ maxLen) (hbytes : (n + ms.length) * 8 ≤ 140737488355328) (hbase : base ≤ w.heap.size)
    (h : ∀ v' w', w'.ownsRow base e 1 v' (n + ms.length) (xs ++ ints ms) → w.grownBy w' v.ownBlock → wpList P ops Q rest (a.put o.dst v') w') : wpList P ops Q (o :: rest) a w := by
  refine wpList_step fun K hK => ?_
  rw [if_pos hw]
  rcases hf with rfl | ⟨ad, m, c, rfl⟩
  · obtain ⟨ao, cap, e1, _⟩ := id hr
    have hm : ms = [] := by
      injection e1 with _ e2 _
      exact List.eq_nil_of_length_eq_zero e2.symm
    subst hm
    have hrun := run_append_owned_none (P := P) (w := w) base t o.type e i 1 ht hi v n xs hown
    unfold Oper.wp
    simp [execOp, ho, resolve, invoke, builtin, hs, hx, hrun, Result.andThen]
    exact hK _ _ (h v w (by simpa [ints] using hown) (World.grownBy.refl w _))
  · have hml : m = ms.length := by
      obtain ⟨ao, cap, e1, _⟩ := id hr
      injection e1
    subst hml
    exact wp_append_own w s x t ho base e i (.int .i64 0) 1 8 ht hi hz hsize hby rfl (by decide) v n xs hs hown ad ms.length c (ints ms) hx (by simp [ints]) (ints_news hr) (ints_one ms) h63 hbytes hbase fun v' w' h2 h3 _ => hK _ _ (h v' w' h2 h3)
theorem below_src {B : Nat} {w W w1 : World} {e : TypeId} {size k : Nat} {v : Value} {xs : List Value} (hB : Below B w W) (hrow : W.ownsRow B e size v k xs) (hgrow : W.grownBy w1 v.ownBlock) (hle : B ≤ W.heap.size) : Below B w w1 := by
  refine hB.grown hgrow hle fun j ej => ?_
  rcases hrow.2 with ⟨rfl, _⟩ | ⟨g, cap, cur, rfl, hb, _, _⟩
  · simp [Value.ownBlock] at ej
  · obtain rfl : g = j := by simpa [Value.ownBlock] using ej
    exact hb

set_option maxRecDepth 100000 in
set_option maxHeartbeats 4000000 in
theorem more_small (t : ByteArray) (v1 : Value) (zs : List Int) (v2 : Value) (ms : List Int) (hp : t.size ≤ 100) (hq : zs.length ≤ 100) (hm : ms.length ≤ 100)
    (w : World) (hv1 : RdI w.heap.size .i64 v1 zs w) (hn1 : SliceForm v1) (hv2 : RdI w.heap.size .i64 v2 ms w) (hn2 : SliceForm v2) :
    Calls Try.prog 8 #[.string t, v1, v2] w fun e W' => e = .returned (.bool true) ∧ Below w.heap.size w W' := by
  have h1 := small1 (n := t.size) (by omega)
  have h2 := small1 (n := zs.length) (by omega)
  have h3 := small1 (n := ms.length) (by omega)
  have hx := xs_le t.data.toList
  rw [data_len] at hx
  obtain ⟨i0, hi, hz0, hz1, hz2⟩ := info_parts infoInt
  obtain ⟨ao1, cap1, rfl, _⟩ := id hv1
  obtain ⟨ao2, cap2, rfl, _⟩ := id hv2
  have HV1 := Lib.hid hv1
  have HV2 := Lib.hid hv2
  have HN1 := Lib.hid hn1
  have HN2 := Lib.hid hn2
  clear hv1 hv2 hn1 hn2
  go_enter Try.func8, Try.ntmps8
  go_wp2_with fail
  refine (shown_any _).mono ?_
  rintro e w1 ⟨rfl, hb1⟩
  have s1 := hb1.size
  have hw1 := HV1.out.below hb1
  have hw2 := HV2.out.below hb1
  have HW1 := Lib.hid hw1
  have HW2 := Lib.hid hw2
  clear hw1 hw2
  go_wp2_with fail
  refine (rcount_any _ (by omega) _).mono ?_
  rintro e w2 ⟨rfl, rfl⟩
  go_wp2_with (at_builtin; refine wpList_append_src rfl (.tmp 29) (.tmp 30) 29 rfl w1.heap.size 3 i0 Try.underlying29 hi hz0 hz1 hz2 _ 0 _ rfl (ownE w1) w.heap.size _ zs rfl HN1.out (HW1.out.below ((Below.refl _ w1).alloc s1 _)) (by unfold maxLen; omega) (by omega) (by simp) ?_)
  intro v2 w2 ho2 hgr2
  have hB2 : Below w1.heap.size w1 w2 := below_src ((Below.refl _ w1).alloc (Nat.le_refl _) _) (ownE w1) hgr2 (by simp)
  have ho2' : w2.ownsRow w1.heap.size 3 1 v2 zs.length (ints zs) := by simpa using ho2
  clear ho2
  have ho2 := ho2'
  clear ho2'
  obtain ⟨ao2', cap2', rfl⟩ := own_form ho2
  have s2 := hB2.size
  clear hgr2
  go_wp2
  go_loopw [8] (fun u wr => ∃ (r : Nat) (ao : Option Addr) (cap : Nat), u = .slice ao (zs.length + r) cap ∧ wr.ownsRow w1.heap.size 3 1 u (zs.length + r) (ints (zs ++ List.replicate r 0)) ∧ Below w1.heap.size w1 wr ∧ r ≤ 100) (fun u _ => xs t.data.toList - sliceLen u)
  case atStart => exact ⟨0, _, _, rfl, by simpa using ho2, hB2, Nat.zero_le _⟩
  case round =>
    obtain ⟨r, ao, cap, rfl, hown, hB, hr⟩ := hrel
    by_cases hlt : zs.length + r < xs t.data.toList
    · have hl1 : ((zs.length + r : Nat) : Int) < (xs t.data.toList : Int) := by omega
      have sB := hB.size
      have hnext : Hid (ints (zs ++ List.replicate (r + 1) 0) = ints (zs ++ List.replicate r 0) ++ [.int .i64 0]) := Lib.hid (by simp [ints, List.replicate_succ'])
      go_wp2_with (at_builtin; refine wpList_append_own _ rfl (.tmp 36) (.tmp 37) 29 rfl w1.heap.size 3 i0 (.int .i64 0) 1 8 Try.underlying29 hi hz0 hz1 hz2 rfl (by decide) _ _ _ rfl (hown.alloc _) ⟨wr.heap.size, 0, none⟩ 1 1 [.int .i64 0] rfl rfl (one_new _ _ _) (by intro u hu; simp only [List.mem_singleton] at hu; subst hu; rfl) (by unfold maxLen; omega) (by omega) (by simp; omega) ?_)
      intro v3 w3 ho3 hgr3 _
      have hB3 := below_appended (Nat.le_refl _) hB hown hgr3
      obtain ⟨ao3, cap3, rfl⟩ := own_form ho3
      rw [← hnext.out] at ho3
      go_wp2
      go_roundw
      case rel => exact ⟨r + 1, _, _, rfl, ho3, hB3, by omega⟩
      case measure => simp [sliceLen]; omega
    · have hge : xs t.data.toList ≤ zs.length + r := by omega
      have hl1 : decide ((zs.length : Int) + (r : Int) < (xs t.data.toList : Int)) = false := by simp; omega
      obtain ⟨L, hL⟩ : ∃ L, L = zs ++ List.replicate r 0 := ⟨_, rfl⟩
      have hLl : L.length = zs.length + r := by rw [hL]; simp
      obtain ⟨M, hM⟩ : ∃ M, M = makeL t.data.toList zs := ⟨_, rfl⟩
      have hM1 : makeL t.data.toList L = M := by rw [hM, hL]; exact makeL_more _ _ _ fun i _ => pad_getD _ _ _
      have hM2 : makeL t.data.toList (L ++ ms) = M := by rw [← hM1]; exact makeL_more _ _ _ fun i hi => more_getD _ _ _ _ hi (by omega)
      rw [← hL] at hown
      have hrL : RdI wr.heap.size .i64 (.slice ao (zs.length + r) cap) L wr := RdI.own (base := w1.heap.size) (e := 3) (by rw [hLl]; exact hown) (Nat.le_refl _)
      have hsf := own_sform hown
      have hBw : Below w.heap.size w wr := hb1.trans (hB.mono s1)
      have hr1 := HV1.out.below hBw
      have hr2 := HV2.out.below hBw
      have sB := hB.size
      have hm2 : (L ++ ms).length ≤ 65000 := by rw [List.length_append]; omega
      have HM := Lib.hid hM
      have HM1 := Lib.hid hM1
      have HM2 := Lib.hid hM2
      have HRL := Lib.hid hrL
      have HSF := Lib.hid hsf
      have HR1 := Lib.hid hr1
      have HR2 := Lib.hid hr2
      have HLL := Lib.hid hLl
      have hLb : L.length ≤ 300 := by omega
      clear hL hM hM1 hM2 hrL hsf hr1 hr2 hLl
      go_wp2_with fail
      refine (make_any _ _ zs _ (by omega) (HR1.out.mono (by omega)) (by omega)).mono ?_
      rintro e w4 ⟨rfl, hb4⟩
      rw [← HM.out]
      have s4 := hb4.size
      go_wp2_with fail
      refine (make_any _ _ L _ (by omega) ((HRL.out.below hb4).mono s4) (by omega)).mono ?_
      rintro e w5 ⟨rfl, hb5⟩
      rw [HM1.out]
      have s5 := hb5.size
      have hb45 : Below wr.heap.size wr w5 := hb4.trans (hb5.mono s4)
      go_wp2_with fail
      refine (make_any _ _ L _ (by omega) ((HRL.out.below hb45).mono (by omega)) (by omega)).mono ?_
      rintro e w6 ⟨rfl, hb6⟩
      rw [HM1.out]
      have s6 := hb6.size
      have hb46 : Below wr.heap.size wr w6 := hb45.trans (hb6.mono (by omega))
      have HR6 := Lib.hid (HRL.out.below hb46)
      go_wp2_with (at_builtin; go_loud (refine wpList_append_src rfl (.tmp 51) (.tmp 52) 29 rfl w6.heap.size 3 i0 Try.underlying29 hi hz0 hz1 hz2 _ 0 _ rfl (ownE w6) wr.heap.size _ L rfl HSF.out (HR6.out.below ((Below.refl _ w6).alloc (by omega) _)) (by unfold maxLen; omega) (by omega) (by simp) ?_))
      intro v7 w7 ho7 hgr7
      have hB7 : Below w6.heap.size w6 w7 := below_src ((Below.refl _ w6).alloc (Nat.le_refl _) _) (ownE w6) hgr7 (by simp)
      have s7 := hB7.size
      have hb47 : Below wr.heap.size wr w7 := hb46.trans (hB7.mono hb46.size)
      have hB7w : Below w.heap.size w w7 := hBw.trans (hb47.mono (by omega))
      have HR7 := Lib.hid (HV2.out.below hB7w)
      clear hgr7
      go_wp2_with (at_builtin; go_loud (refine wpList_append_src rfl (.tmp 53) (.tmp 54) 29 rfl w6.heap.size 3 i0 Try.underlying29 hi hz0 hz1 hz2 _ L.length _ rfl ho7 w.heap.size _ ms rfl HN2.out HR7.out (by unfold maxLen; omega) (by omega) s7 ?_))
      intro v8 w8 ho8 hgr8
      have hB8 : Below w6.heap.size w6 w8 := below_src hB7 ho7 hgr8 s7
      have hlm : L.length + ms.length = (L ++ ms).length := by rw [List.length_append]
      have hr8 : RdI w8.heap.size .i64 v8 (L ++ ms) w8 := by
        refine RdI.own (base := w6.heap.size) (e := 3) ?_ (Nat.le_refl _)
        rw [← hlm]
        have : (L ++ ms).map (Value.int .i64) = ints L ++ ints ms := by simp [ints]
        rw [this]
        exact ho8
      have s8 := hB8.size
      clear hgr8 hlm
      obtain ⟨ao8, cap8, rfl⟩ := own_form ho8
      go_wp2_with fail
      refine (make_any _ _ (L ++ ms) _ (by omega) hr8 hm2).mono ?_
      rintro e w9 ⟨rfl, hb9⟩
      rw [HM2.out]
      go_wp2_with fail
      go_ret
      exact ⟨rfl, hBw.trans ((hb46.trans ((hB8.mono hb46.size).trans (hb9.mono (by omega)))).mono (by omega))⟩

set_option maxRecDepth 100000 in
set_option maxHeartbeats 1000000 in
theorem more_walk (t : ByteArray) (v1 : Value) (zs : List Int) (v2 : Value) (ms : List Int) (_ : t.size ≤ 9223372036854775807) (_ : zs.length ≤ 9223372036854775807) (_ : ms.length ≤ 9223372036854775807)
    (w : World) (hv1 : RdI w.heap.size .i64 v1 zs w) (_ : ∀ z ∈ zs, (Lit.int .i64 z).wf = true) (hn1 : SliceForm v1) (hv2 : RdI w.heap.size .i64 v2 ms w) (_ : ∀ z ∈ ms, (Lit.int .i64 z).wf = true) (hn2 : SliceForm v2) :
    Calls Try.prog 8 #[.string t, v1, v2] w fun e W' => e = .returned (.bool true) ∧ Below w.heap.size w W' := by
  obtain ⟨ao1, cap1, rfl, _⟩ := id hv1
  obtain ⟨ao2, cap2, rfl, _⟩ := id hv2
  by_cases hp : 100 < t.size
  · have h1 := big1 hp
    clear hp hv1 hv2 hn1 hn2
    go_enter Try.func8, Try.ntmps8
    go_wp2_with (go_at_call 9; refine (shown_any _).mono ?_; rintro e w1 ⟨rfl, hb1⟩)
    go_ret
    exact ⟨rfl, hb1⟩
  have h1 := small1 hp
  by_cases hq : 100 < zs.length
  · have h2 := big1 hq
    clear hp hq hv1 hv2 hn1 hn2
    go_enter Try.func8, Try.ntmps8
    go_wp2_with (go_at_call 9; refine (shown_any _).mono ?_; rintro e w1 ⟨rfl, hb1⟩)
    go_ret
    exact ⟨rfl, hb1⟩
  have h2 := small1 hq
  by_cases hm : 100 < ms.length
  · have h3 := big1 hm
    clear hp hq hm hv1 hv2 hn1 hn2
    go_enter Try.func8, Try.ntmps8
    go_wp2_with (go_at_call 9; refine (shown_any _).mono ?_; rintro e w1 ⟨rfl, hb1⟩)
    go_ret
    exact ⟨rfl, hb1⟩
  exact more_small t _ zs _ ms (by omega) (by omega) (by omega) w hv1 hn1 hv2 hn2
end Go.Proofs.Ytoombpdoagjaoaa
