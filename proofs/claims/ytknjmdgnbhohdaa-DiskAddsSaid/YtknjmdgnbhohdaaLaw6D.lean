/-
  The walk of DiskSets.
-/
import Derived.Test.YtknjmdgnbhohdaaLaw6B
import Derived.Test.YtknjmdgnbhohdaaArgs
namespace Go.Proofs.Ytknjmdgnbhohdaa
open Go.RowKit Go.Shelf
attribute [local go_sem ↓] Go.wp_at_zero Go.wp_at_succ

/-- A node, read by whoever asks: its value is a letter. -/
theorem node_g (n : NodeL) (hl : n.names.length ≤ 10000) (v : Value) (W : World) (hg : RdNm W.heap.size (n, v) W) :
    Calls Try.prog 24 #[nval n v] W fun e w' => ∃ v', e = .returned (nval n v') ∧ RdNm w'.heap.size (n, v') w' ∧ Below W.heap.size W w' :=
  (node_any n v W hg hl).mono fun _ _ ⟨v', h1, h2, h3⟩ => ⟨v', h1, Rd.own h2 (Nat.le_refl _), h3⟩
theorem alike_g (n : NodeL) (hl : n.names.length ≤ 10000) (v v' : Value) (W : World) (hg : RdNm W.heap.size (n, v) W) (hg' : RdNm W.heap.size (n, v') W) :
    Calls Try.prog 23 #[nval n v, nval n v'] W fun e w' => e = .returned (.bool true) ∧ Below W.heap.size W w' := by
  have := alike_any n n v v' W hg hg' hl hl
  simpa using this
theorem cells8x {W : World} {b c : Nat} {u0 u1 u2 u3 u4 u5 u6 u7 z0 z1 z2 z3 z4 z5 z6 z7 : Value} {t t' : TypeId} {f f' : Nat × Nat} (h : W.heap[b]? = some (.cells #[u0, u1, u2, u3, u4, u5, u6, u7] t f)) (h' : W.heap[c]? = some (.cells #[z0, z1, z2, z3, z4, z5, z6, z7] t' f')) :
    W.cell? ⟨b, 0, none⟩ = some u0 ∧ W.cell? ⟨b, 1, none⟩ = some u1 ∧ W.cell? ⟨b, 2, none⟩ = some u2 ∧ W.cell? ⟨b, 3, none⟩ = some u3 ∧ W.cell? ⟨b, 4, none⟩ = some u4 ∧ W.cell? ⟨b, 5, none⟩ = some u5 ∧ W.cell? ⟨b, 6, none⟩ = some u6 ∧ W.cell? ⟨b, 7, none⟩ = some u7 ∧ W.cell? ⟨c, 0, none⟩ = some z0 ∧ W.cell? ⟨c, 1, none⟩ = some z1 ∧ W.cell? ⟨c, 2, none⟩ = some z2 ∧ W.cell? ⟨c, 3, none⟩ = some z3 ∧ W.cell? ⟨c, 4, none⟩ = some z4 ∧ W.cell? ⟨c, 5, none⟩ = some z5 ∧ W.cell? ⟨c, 6, none⟩ = some z6 ∧ W.cell? ⟨c, 7, none⟩ = some z7 := by
  have a := cells8 h
  have b := cells8 h'
  exact ⟨a.1, a.2.1, a.2.2.1, a.2.2.2.1, a.2.2.2.2.1, a.2.2.2.2.2.1, a.2.2.2.2.2.2.1, a.2.2.2.2.2.2.2, b⟩
theorem setL_in {l : List NodeL} {k : Nat} (h : k < l.length) (n : NodeL) : setL l (k : Int) n = l.set k n := by
  unfold setL
  rw [nat_in h]
  simp
theorem gotB_set {l : List NodeL} {k : Nat} (h : k < l.length) (n : NodeL) : gotB (l.set k n) (k : Int) = !decide (n.kind = 0) := by
  unfold gotB
  rw [nat_in (by rw [List.length_set]; exact h), at_nat _ _ (by rw [List.length_set]; exact h), List.getElem_set_self]
  rfl
theorem getL_set {l : List NodeL} {k : Nat} (h : k < l.length) (n : NodeL) (hk : n.kind ≠ 0) : getL (l.set k n) (k : Int) = n := by
  unfold getL
  rw [gotB_set h, at_nat _ _ (by rw [List.length_set]; exact h), List.getElem_set_self]
  simp [hk]
set_option maxRecDepth 100000 in
set_option maxHeartbeats 8000000 in
theorem sets_walk (v : Value) (ms : List NodeM) (most room : Int) (n : NodeL) (vn : Value) (x : Int) (w : World) (hx : (Lit.int .u8 x).wf = true) (hv : RdM w.heap.size v ms w) (hn : RdNm w.heap.size (n, vn) w) :
    Calls Try.prog 6 #[.agg #[v, .int .i64 most, .int .i64 room], nval n vn, .int .u8 x] w fun e w' => e = .returned (.bool true) ∧ Below w.heap.size w w' := by
  obtain ⟨cx, rfl⟩ := u8_of hx
  have hcx : cx.toNat < 256 := cx.toNat_lt
  generalize cx.toNat = x at *
  clear hx
  obtain ⟨ao, cap, rfl, _, _⟩ := rdm_form hv
  obtain ⟨aon, capn, e, _, _⟩ := Rd.form hn
  have e' : vn = .slice aon n.names.length capn := e
  subst e'
  have HV := Lib.hid hv
  have HN := Lib.hid hn
  clear hv hn e
  go_enter Try.func6, Try.ntmps6
  go_wp2_with fail
  refine fresh2 (P := fun W => Calls _ _ _ W _) ?_
  intro W0 hb0 hD hQ hs0
  refine (big_any (.slice ao ms.length cap) ms most room W0 (rdm_keep HV.out hb0)).mono ?_
  rintro e W1 ⟨rfl, hb1⟩
  have hB1 := ret_tr hb0 hb1
  have hs1 := hb1.size
  have hD1 := Lib.hid ((hb1.block _ (by omega)).trans hD)
  have hQ1 := Lib.hid ((hb1.block _ (by omega)).trans hQ)
  obtain ⟨p0, p1, p2⟩ := cells3 hD1.out
  obtain ⟨q0, q1, q2, q3, q4, q5, q6, q7⟩ := cells8 hQ1.out
  clear hb0 hb1 hD hQ
  by_cases bad : bigL (pl ms) = true ∨ ms.length = 0 ∨ 300 < n.data.length ∨ 60 < n.names.length
  · have way : ∀ X : Prop, X → X := fun _ h => h
    cases hbig : bigL (pl ms) with
    | true =>
      go_wp2_with fail
      refine (shown_any _).mono ?_
      rintro e W2 ⟨rfl, hb2⟩
      go_wp2_with fail
      go_ret
      exact ⟨rfl, ret_tr hB1 hb2⟩
    | false =>
      by_cases h0 : ms.length = 0
      · have hI : ((ms.length : Int) == 0) = true := by rw [beq_iff_eq]; omega
        clear bad way
        go_wp2_with fail
        refine (shown_any _).mono ?_
        rintro e W2 ⟨rfl, hb2⟩
        go_wp2_with fail
        go_ret
        exact ⟨rfl, ret_tr hB1 hb2⟩
      · have hI : ((ms.length : Int) == 0) = false := by rw [beq_eq_false_iff_ne]; omega
        by_cases h1 : 300 < n.data.length
        · have hJ : decide ((300 : Int) < (n.data.length : Int)) = true := decide_eq_true (by omega)
          clear bad way
          go_wp2_with fail
          refine (shown_any _).mono ?_
          rintro e W2 ⟨rfl, hb2⟩
          go_wp2_with fail
          go_ret
          exact ⟨rfl, ret_tr hB1 hb2⟩
        · have hJ : decide ((300 : Int) < (n.data.length : Int)) = false := decide_eq_false (by omega)
          have hK : decide ((60 : Int) < (n.names.length : Int)) = true := decide_eq_true (by rcases bad with h | h | h | h <;> first | (rw [hbig] at h; cases h) | omega)
          clear bad way
          go_wp2_with fail
          refine (shown_any _).mono ?_
          rintro e W2 ⟨rfl, hb2⟩
          go_wp2_with fail
          go_ret
          exact ⟨rfl, ret_tr hB1 hb2⟩
  have hbig : bigL (pl ms) = false := by cases h : bigL (pl ms) with | false => rfl | true => exact absurd (Or.inl h) bad
  have h0 : ms.length ≠ 0 := fun h => bad (.inr (.inl h))
  have hd3 : n.data.length ≤ 300 := Nat.le_of_not_lt fun h => bad (.inr (.inr (.inl h)))
  have hn6 : n.names.length ≤ 60 := Nat.le_of_not_lt fun h => bad (.inr (.inr (.inr h)))
  have hI : ((ms.length : Int) == 0) = false := by rw [beq_eq_false_iff_ne]; omega
  have hJ : decide ((300 : Int) < (n.data.length : Int)) = false := decide_eq_false (by omega)
  have hK : decide ((60 : Int) < (n.names.length : Int)) = false := decide_eq_false (by omega)
  have hsm := small_of hbig
  have HS := Lib.hid hsm
  have hl := small_len hsm
  have HNL := Lib.hid (small_names hsm)
  rw [hbig]
  clear bad hbig hsm
  go_wp2_with fail
  refine (shown_any _).mono ?_
  rintro e W2 ⟨rfl, hb2⟩
  have hB2 := ret_tr hB1 hb2
  have hs2 := hb2.size
  have hD2 := Lib.hid ((hb2.block _ (by omega)).trans hD1.out)
  have hQ2 := Lib.hid ((hb2.block _ (by omega)).trans hQ1.out)
  clear hB1 hb2 hD1 hQ1 p0 p1 p2 q0 q1 q2 q3 q4 q5 q6 q7 hI hJ hK
  obtain ⟨p0, p1, p2⟩ := cells3 hD2.out
  obtain ⟨q0, q1, q2, q3, q4, q5, q6, q7⟩ := cells8 hQ2.out
  have hkl : x % ms.length < ms.length := Nat.mod_lt _ (by omega)
  have hne0 : ((ms.length : Int) == 0) = false := by rw [beq_eq_false_iff_ne]; omega
  go_wp2_with fail
  have hkc : ((x : Int) % (ms.length : Int)) = ((x % ms.length : Nat) : Int) := by omega
  simp only [hkc]
  generalize x % ms.length = k at *
  clear hkc hne0 p0 p1 p2 q0 q1 q2 q3 q4 q5 q6 q7
  have hkp : k < (pl ms).length := by rw [pl_len]; exact hkl
  refine (set_any (.slice ao ms.length cap) ms most room k n (.slice aon n.names.length capn) W2 (rdm_keep HV.out hB2) (by omega) (rdnm_keep HN.out hB2) (by omega)).mono ?_
  intro e W3 h3
  obtain ⟨v3, m3, rfl, hm3, hr3, hb3, -⟩ := h3
  rw [setL_in hkp] at hm3
  have hl3 : m3.length = ms.length := by rw [← pl_len, hm3, List.length_set, pl_len]
  obtain ⟨ao3, cap3, e3, _, _⟩ := rdm_form hr3
  rw [hl3] at e3
  subst e3
  have hB3 := ret_tr hB2 hb3
  have hs3 := hb3.size
  have hD3 := Lib.hid ((hb3.block _ (by omega)).trans hD2.out)
  have hQ3 := Lib.hid ((hb3.block _ (by omega)).trans hQ2.out)
  clear hb3 hB2 hD2 hQ2
  go_wp2_with fail
  refine fresh1 (P := fun W => Calls _ _ _ W _) ?_
  intro W4 hb4 hS4 hs4
  have hB4 := ret_tr hB3 hb4
  have hD4 := Lib.hid ((hb4.block _ (by omega)).trans hD3.out)
  have hQ4 := Lib.hid ((hb4.block _ (by omega)).trans hQ3.out)
  have hR4 := Lib.hid (rdm_keep hr3 hb4)
  clear hb4 hB3 hD3 hQ3 hr3
  have hl4 : m3.length ≤ 10000 := by omega
  have hnn4 : ∀ a ∈ pl m3, a.names.length ≤ 10000 := fun a ha => by
    rw [hm3] at ha
    rcases List.mem_or_eq_of_mem_set ha with ha | rfl
    · exact HNL.out a ha
    · omega
  have hget := get_any (.slice ao3 ms.length cap3) m3 most room k W4 hR4.out hl4 hnn4
  rw [hm3] at hget
  refine hget.mono ?_
  intro e W5 h5
  obtain ⟨v5, rfl, hn5, hb5⟩ := h5
  have hgb : gotB ((pl ms).set k n) (k : Int) = (n.kind != 0) := by rw [gotB_set hkp]; rfl
  rw [hgb]
  have hB5 := ret_tr hB4 hb5
  have hs5 := hb5.size
  have hD5 := Lib.hid ((hb5.block _ (by omega)).trans hD4.out)
  have hQ5 := Lib.hid ((hb5.block _ (by omega)).trans hQ4.out)
  have hS5 := Lib.hid ((hb5.block _ (by omega)).trans hS4)
  have hR5 := Lib.hid (rdm_keep hR4.out hb5)
  clear hb5 hB4 hD4 hQ4 hS4 hR4 hget hgb
  obtain ⟨ao5, cap5, e5, _, _⟩ := Rd.form hn5
  have e5' : v5 = .slice ao5 (getL ((pl ms).set k n) k).names.length cap5 := e5
  subst e5'
  have d0 := (cells3 hD5.out).1
  have s0 := (cells3 hS5.out).1
  have q0 := (cells8 hQ5.out).1
  have hneS : ((ms.length : Int) != (ms.length : Int)) = false := by simp
  have hw5 : w.heap.size + 1 < W5.heap.size := by omega
  have hw53 : W3.heap.size < W5.heap.size := by omega
  by_cases h00 : n.kind = 0
  · have hk0 : (n.kind != 0) = false := by simpa using h00
    rw [hk0]
    go_wp2_with fail
    refine fresh1 (P := fun W => Code.wp _ _ _ _ W) ?_
    intro W6 hb6 hM6 hs6
    have hB6 := ret_tr hB5 hb6
    have hD6 := Lib.hid ((hb6.block _ (by omega)).trans hD5.out)
    have hQ6 := Lib.hid ((hb6.block _ (by omega)).trans hQ5.out)
    have hS6 := Lib.hid ((hb6.block _ (by omega)).trans hS5.out)
    have hR6 := Lib.hid (rdm_keep hR5.out hb6)
    have dd0 := cell_regrown (cells3 hD6.out).1
    have ss0 := cell_regrown (cells3 hS6.out).1
    have qq0 := cell_regrown (cells8 hQ6.out).1
    refine wp_region_quiet_below (by kernel_rfl) (by kernel_rfl) ?_
    repeat (go_big_quiet_step (fail))
    refine wpQuiet_nil ?_
    clear dd0 ss0 qq0
    intro _ hw'
    obtain ⟨⟨dq, osq⟩, hw''⟩ := hw'
    have hbg : Below W6.heap.size W6 _ := below_regrown W6 dq osq
    rw [← hw''] at hbg
    clear hw''
    rename_i W7
    clear d0 s0 q0
    have hB7 := ret_tr hB6 hbg
    have hs7 := hbg.size
    have hD7 := Lib.hid ((hbg.block _ (by omega)).trans hD6.out)
    have hS7 := Lib.hid ((hbg.block _ (by omega)).trans hS6.out)
    have hR7 := Lib.hid (rdm_keep hR6.out hbg)
    clear hbg hB6 hD6 hS6 hR6 hQ6
    go_wp2_with fail
    go_loopw [11] (fun i' wr => ∃ j : Nat, i' = .int .i64 j ∧ j ≤ ms.length ∧ Below W7.heap.size W7 wr) (fun i' _ => ms.length - (intOf i').toNat)
    case atStart => exact ⟨0, rfl, Nat.zero_le _, Below.refl _ _⟩
    case round =>
      obtain ⟨j, rfl, hj, hBr⟩ := hrel
      have hBw := ret_tr hB7 hBr
      have hDr := (hBr.block _ (by omega)).trans hD7.out
      have hSr := (hBr.block _ (by omega)).trans hS7.out
      have hRr := rdm_keep hR7.out hBr
      have d0 := (cells3 hDr).1
      have s0 := (cells3 hSr).1
      have swr := hBr.size
      have hwr1 : w.heap.size < wr.heap.size := by omega
      have hwr2 : W3.heap.size < wr.heap.size := by omega
      by_cases hlt : j < ms.length
      · by_cases hjk : j = k
        · have hI : ((j : Int) != (k : Int)) = false := by rw [hjk]; simp
          clear hRr
          go_wp2_with fail
          have dd0 := cell_regrown d0
          have ss0 := cell_regrown s0
          refine wp_region_quiet_below (by kernel_rfl) (by kernel_rfl) ?_
          repeat (go_big_quiet_step (fail))
          refine wpQuiet_nil ?_
          clear dd0 ss0
          intro _ hw'
          obtain ⟨⟨dq, osq⟩, hw''⟩ := hw'
          have hbq : Below wr.heap.size wr _ := below_regrown wr dq osq
          rw [← hw''] at hbq
          clear hw''
          rename_i W8
          go_wp2_with fail
          go_roundw
          case rel => exact ⟨j + 1, by go_num, hlt, ret_tr hBr hbq⟩
          case measure => simp [intOf]; omega
        · have hI : ((j : Int) != (k : Int)) = true := by rw [bne_iff_ne]; omega
          have hv1 := rdm_keep HV.out hBw
          obtain ⟨b, off, n1, aox, capx, rfl, hb, hx1, -, hrx, a0, a1, a2, a3, a4, a5, a6, a7⟩ := node_at hv1 j hlt
          have hr3' : RdM wr.heap.size (.slice ao3 m3.length cap3) m3 wr := by rw [hl3]; exact hRr
          obtain ⟨b3, off3, n2, aoy, capy, rfl, hb3, hx2, -, hry, y0, y1, y2, y3, y4, y5, y6, y7⟩ := node_at hr3' j (by rw [hl3]; exact hlt)
          have hsame : n2 = n1 := by
            rw [← hx2, ← hx1]
            have e : ∀ (L : List NodeL) (hL : L = (pl ms).set k n) (h : j < L.length), L[j]'h = (pl ms)[j]'(by rw [pl_len]; exact hlt) := by
              intro L hL h
              subst hL
              exact List.getElem_set_ne (Ne.symm hjk) _
            exact e _ hm3 _
          subst hsame
          have hrx' : Rd wr.heap.size 2 (.slice aox n2.names.length capx) n2.names.length (ents n2.names) wr := hrx
          have hnn : n2.names.length ≤ 10000 := HNL.out n2 (by rw [← hx1]; exact List.getElem_mem _)
          have j0 : (0 : Int) ≤ (j : Int) := by omega
          have j1 : (j : Int) < (ms.length : Int) := by omega
          have HSS : Hid (∀ W, Below wr.heap.size wr W → W.cell? ⟨W3.heap.size, 0, none⟩ = some (.slice (some ⟨b3, off3, none⟩) ms.length cap3) ∧ W.cell? ⟨w.heap.size, 0, none⟩ = some (.slice (some ⟨b, off, none⟩) ms.length cap) ∧ W.cell? ⟨b3, off3 + j * 8, none⟩ = some (.int .i64 n2.kind) ∧ W.cell? ⟨b3, off3 + j * 8 + 1, none⟩ = some (.int .i64 n2.mode) ∧ W.cell? ⟨b3, off3 + j * 8 + 2, none⟩ = some (.int .i64 n2.owner) ∧ W.cell? ⟨b3, off3 + j * 8 + 3, none⟩ = some (.int .i64 n2.links) ∧ W.cell? ⟨b3, off3 + j * 8 + 4, none⟩ = some (.int .i64 n2.opn) ∧ W.cell? ⟨b3, off3 + j * 8 + 5, none⟩ = some (.int .i64 n2.up) ∧ W.cell? ⟨b3, off3 + j * 8 + 6, none⟩ = some (.string (bs n2.data)) ∧ W.cell? ⟨b3, off3 + j * 8 + 7, none⟩ = some (.slice aoy n2.names.length capy) ∧ W.cell? ⟨b, off + j * 8, none⟩ = some (.int .i64 n2.kind) ∧ W.cell? ⟨b, off + j * 8 + 1, none⟩ = some (.int .i64 n2.mode) ∧ W.cell? ⟨b, off + j * 8 + 2, none⟩ = some (.int .i64 n2.owner) ∧ W.cell? ⟨b, off + j * 8 + 3, none⟩ = some (.int .i64 n2.links) ∧ W.cell? ⟨b, off + j * 8 + 4, none⟩ = some (.int .i64 n2.opn) ∧ W.cell? ⟨b, off + j * 8 + 5, none⟩ = some (.int .i64 n2.up) ∧ W.cell? ⟨b, off + j * 8 + 6, none⟩ = some (.string (bs n2.data)) ∧ W.cell? ⟨b, off + j * 8 + 7, none⟩ = some (.slice aox n2.names.length capx)) := Lib.hid fun W hw => ⟨(hw.cell (p := ⟨W3.heap.size, 0, none⟩) hwr2).trans s0, (hw.cell (p := ⟨w.heap.size, 0, none⟩) hwr1).trans d0, (hw.cell hb3).trans y0, (hw.cell hb3).trans y1, (hw.cell hb3).trans y2, (hw.cell hb3).trans y3, (hw.cell hb3).trans y4, (hw.cell hb3).trans y5, (hw.cell hb3).trans y6, (hw.cell hb3).trans y7, (hw.cell hb).trans a0, (hw.cell hb).trans a1, (hw.cell hb).trans a2, (hw.cell hb).trans a3, (hw.cell hb).trans a4, (hw.cell hb).trans a5, (hw.cell hb).trans a6, (hw.cell hb).trans a7⟩
          have HNx := Lib.hid fun W (hw : Below wr.heap.size wr W) => node_g n2 hnn (.slice aox n2.names.length capx) W (rd_keep hrx' hw)
          have HNy := Lib.hid fun W (hw : Below wr.heap.size wr W) => node_g n2 hnn (.slice aoy n2.names.length capy) W (rd_keep hry hw)
          have HAl := Lib.hid (alike_g n2 hnn)
          have bw : Below wr.heap.size wr wr := Below.refl _ _
          have bd : Below wr.heap.size wr wr.drew := (Below.refl _ _).drew
          clear hv1 hx1 hx2 hRr hr3' hrx hry hrx'
          go_wp2_with fail
          go_region_held3 (fun W => W.cell? ⟨W3.heap.size, 0, none⟩ = some (.slice (some ⟨b3, off3, none⟩) ms.length cap3) ∧ W.cell? ⟨w.heap.size, 0, none⟩ = some (.slice (some ⟨b, off, none⟩) ms.length cap) ∧ W.cell? ⟨b3, off3 + j * 8, none⟩ = some (.int .i64 n2.kind) ∧ W.cell? ⟨b3, off3 + j * 8 + 1, none⟩ = some (.int .i64 n2.mode) ∧ W.cell? ⟨b3, off3 + j * 8 + 2, none⟩ = some (.int .i64 n2.owner) ∧ W.cell? ⟨b3, off3 + j * 8 + 3, none⟩ = some (.int .i64 n2.links) ∧ W.cell? ⟨b3, off3 + j * 8 + 4, none⟩ = some (.int .i64 n2.opn) ∧ W.cell? ⟨b3, off3 + j * 8 + 5, none⟩ = some (.int .i64 n2.up) ∧ W.cell? ⟨b3, off3 + j * 8 + 6, none⟩ = some (.string (bs n2.data)) ∧ W.cell? ⟨b3, off3 + j * 8 + 7, none⟩ = some (.slice aoy n2.names.length capy) ∧ W.cell? ⟨b, off + j * 8, none⟩ = some (.int .i64 n2.kind) ∧ W.cell? ⟨b, off + j * 8 + 1, none⟩ = some (.int .i64 n2.mode) ∧ W.cell? ⟨b, off + j * 8 + 2, none⟩ = some (.int .i64 n2.owner) ∧ W.cell? ⟨b, off + j * 8 + 3, none⟩ = some (.int .i64 n2.links) ∧ W.cell? ⟨b, off + j * 8 + 4, none⟩ = some (.int .i64 n2.opn) ∧ W.cell? ⟨b, off + j * 8 + 5, none⟩ = some (.int .i64 n2.up) ∧ W.cell? ⟨b, off + j * 8 + 6, none⟩ = some (.string (bs n2.data)) ∧ W.cell? ⟨b, off + j * 8 + 7, none⟩ = some (.slice aox n2.names.length capx))
            (first
              | exact HSS.out _ (by assumption)
              | go_keep)
            (first
              | (go_at_call 24; (with_reducible refine (HNx.out _ (by assumption)).mono ?_); rintro e WX ⟨vX, rfl, gX, hbX⟩; have bX := ret_tr (w := wr) (by assumption) hbX; (try replace gY := rdnm_keep gY hbX))
              | (go_at_call 24; (with_reducible refine (HNy.out _ (by assumption)).mono ?_); rintro e WX ⟨vY, rfl, gY, hbX⟩; have bX := ret_tr (w := wr) (by assumption) hbX; (try replace gX := rdnm_keep gX hbX))
              | (go_at_call 23; (with_reducible refine (HAl.out vY vX _ gY gX).mono ?_); rintro e WX ⟨rfl, hbX⟩; have bX := ret_tr (w := wr) (by assumption) hbX)
              | fail)
          all_goals (
            go_wp2_with fail
            go_roundw
            case rel => exact ⟨j + 1, by go_num, hlt, ret_tr hBr (by assumption)⟩
            case measure => simp [intOf]; omega)
      · have hI2 : decide (j < ms.length) = false := by simp; omega
        clear hlt
        go_wp2_with fail
        go_ret
        exact ⟨rfl, hBw⟩
  · have hk0 : (n.kind != 0) = true := by simpa using h00
    have hgl : getL ((pl ms).set k n) k = n := getL_set hkp n h00
    rw [hk0]
    rw [hgl] at hn5 e5 ⊢
    go_wp2_with fail
    refine fresh1 (P := fun W => Code.wp _ _ _ _ W) ?_
    intro W6 hb6 hM6 hs6
    have hB6 := ret_tr hB5 hb6
    have hD6 := Lib.hid ((hb6.block _ (by omega)).trans hD5.out)
    have hQ6 := Lib.hid ((hb6.block _ (by omega)).trans hQ5.out)
    have hS6 := Lib.hid ((hb6.block _ (by omega)).trans hS5.out)
    have hR6 := Lib.hid (rdm_keep hR5.out hb6)
    have HSS : Hid (∀ W, Below W6.heap.size W6 W → W.cell? ⟨W3.heap.size, 0, none⟩ = some (.slice ao3 ms.length cap3) ∧ W.cell? ⟨w.heap.size, 0, none⟩ = some (.slice ao ms.length cap) ∧ W.cell? ⟨W5.heap.size, 0, none⟩ = some (.int .i64 n.kind) ∧ W.cell? ⟨W5.heap.size, 1, none⟩ = some (.int .i64 n.mode) ∧ W.cell? ⟨W5.heap.size, 2, none⟩ = some (.int .i64 n.owner) ∧ W.cell? ⟨W5.heap.size, 3, none⟩ = some (.int .i64 n.links) ∧ W.cell? ⟨W5.heap.size, 4, none⟩ = some (.int .i64 n.opn) ∧ W.cell? ⟨W5.heap.size, 5, none⟩ = some (.int .i64 n.up) ∧ W.cell? ⟨W5.heap.size, 6, none⟩ = some (.string (bs n.data)) ∧ W.cell? ⟨W5.heap.size, 7, none⟩ = some (.slice ao5 n.names.length cap5) ∧ W.cell? ⟨w.heap.size + 1, 0, none⟩ = some (.int .i64 n.kind) ∧ W.cell? ⟨w.heap.size + 1, 1, none⟩ = some (.int .i64 n.mode) ∧ W.cell? ⟨w.heap.size + 1, 2, none⟩ = some (.int .i64 n.owner) ∧ W.cell? ⟨w.heap.size + 1, 3, none⟩ = some (.int .i64 n.links) ∧ W.cell? ⟨w.heap.size + 1, 4, none⟩ = some (.int .i64 n.opn) ∧ W.cell? ⟨w.heap.size + 1, 5, none⟩ = some (.int .i64 n.up) ∧ W.cell? ⟨w.heap.size + 1, 6, none⟩ = some (.string (bs n.data)) ∧ W.cell? ⟨w.heap.size + 1, 7, none⟩ = some (.slice aon n.names.length capn)) := Lib.hid fun W hw => by
      have x1 := cells3 ((hw.block _ (by omega)).trans hS6.out)
      have x2 := cells3 ((hw.block _ (by omega)).trans hD6.out)
      exact ⟨x1.1, x2.1, cells8x ((hw.block _ (by omega)).trans hM6) ((hw.block _ (by omega)).trans hQ6.out)⟩
    have hnl : n.names.length ≤ 10000 := by omega
    have hn6r : RdNm W6.heap.size (n, .slice ao5 n.names.length cap5) W6 := rdnm_keep hn5 hb6
    have HNx := Lib.hid fun W (hw : Below W6.heap.size W6 W) => node_g n hnl (.slice aon n.names.length capn) W (rdnm_keep HN.out (ret_tr hB6 hw))
    have HNy := Lib.hid fun W (hw : Below W6.heap.size W6 W) => node_g n hnl (.slice ao5 n.names.length cap5) W (rdnm_keep hn6r hw)
    have HAl := Lib.hid (alike_g n hnl)
    have bw : Below W6.heap.size W6 W6 := Below.refl _ _
    have bd : Below W6.heap.size W6 W6.drew := (Below.refl _ _).drew
    clear hn5 e5 hn6r hb6 hM6
    go_region_held3 (fun W => W.cell? ⟨W3.heap.size, 0, none⟩ = some (.slice ao3 ms.length cap3) ∧ W.cell? ⟨w.heap.size, 0, none⟩ = some (.slice ao ms.length cap) ∧ W.cell? ⟨W5.heap.size, 0, none⟩ = some (.int .i64 n.kind) ∧ W.cell? ⟨W5.heap.size, 1, none⟩ = some (.int .i64 n.mode) ∧ W.cell? ⟨W5.heap.size, 2, none⟩ = some (.int .i64 n.owner) ∧ W.cell? ⟨W5.heap.size, 3, none⟩ = some (.int .i64 n.links) ∧ W.cell? ⟨W5.heap.size, 4, none⟩ = some (.int .i64 n.opn) ∧ W.cell? ⟨W5.heap.size, 5, none⟩ = some (.int .i64 n.up) ∧ W.cell? ⟨W5.heap.size, 6, none⟩ = some (.string (bs n.data)) ∧ W.cell? ⟨W5.heap.size, 7, none⟩ = some (.slice ao5 n.names.length cap5) ∧ W.cell? ⟨w.heap.size + 1, 0, none⟩ = some (.int .i64 n.kind) ∧ W.cell? ⟨w.heap.size + 1, 1, none⟩ = some (.int .i64 n.mode) ∧ W.cell? ⟨w.heap.size + 1, 2, none⟩ = some (.int .i64 n.owner) ∧ W.cell? ⟨w.heap.size + 1, 3, none⟩ = some (.int .i64 n.links) ∧ W.cell? ⟨w.heap.size + 1, 4, none⟩ = some (.int .i64 n.opn) ∧ W.cell? ⟨w.heap.size + 1, 5, none⟩ = some (.int .i64 n.up) ∧ W.cell? ⟨w.heap.size + 1, 6, none⟩ = some (.string (bs n.data)) ∧ W.cell? ⟨w.heap.size + 1, 7, none⟩ = some (.slice aon n.names.length capn))
      (first
        | exact HSS.out _ (by assumption)
        | go_keep)
      (first
        | (go_at_call 24; (with_reducible refine (HNx.out _ (by assumption)).mono ?_); rintro e WX ⟨vX, rfl, gX, hbX⟩; have bX := ret_tr (w := W6) (by assumption) hbX; (try replace gY := rdnm_keep gY hbX))
        | (go_at_call 24; (with_reducible refine (HNy.out _ (by assumption)).mono ?_); rintro e WX ⟨vY, rfl, gY, hbX⟩; have bX := ret_tr (w := W6) (by assumption) hbX; (try replace gX := rdnm_keep gX hbX))
        | (go_at_call 23; (with_reducible refine (HAl.out vY vX _ gY gX).mono ?_); rintro e WX ⟨rfl, hbX⟩; have bX := ret_tr (w := W6) (by assumption) hbX)
        | fail)
    clear d0 s0 q0
    all_goals
      refine gen_world (P := fun W => Exit.then _ _ _ _ W) (w := W6) (by assumption) ?_
      intro W7 hbg
      clear HSS HNx HNy HAl
      have hB7 := ret_tr hB6 hbg
      have hs7 := hbg.size
      have hD7 := Lib.hid ((hbg.block _ (by omega)).trans hD6.out)
      have hS7 := Lib.hid ((hbg.block _ (by omega)).trans hS6.out)
      have hR7 := Lib.hid (rdm_keep hR6.out hbg)
      clear hbg hB6 hD6 hS6 hR6 hQ6
      go_wp2_with fail
      go_loopw [11] (fun i' wr => ∃ j : Nat, i' = .int .i64 j ∧ j ≤ ms.length ∧ Below W7.heap.size W7 wr) (fun i' _ => ms.length - (intOf i').toNat)
      case atStart => exact ⟨0, rfl, Nat.zero_le _, Below.refl _ _⟩
      case round =>
        obtain ⟨j, rfl, hj, hBr⟩ := hrel
        have hBw := ret_tr hB7 hBr
        have hDr := (hBr.block _ (by omega)).trans hD7.out
        have hSr := (hBr.block _ (by omega)).trans hS7.out
        have hRr := rdm_keep hR7.out hBr
        have d0 := (cells3 hDr).1
        have s0 := (cells3 hSr).1
        have swr := hBr.size
        have hwr1 : w.heap.size < wr.heap.size := by omega
        have hwr2 : W3.heap.size < wr.heap.size := by omega
        by_cases hlt : j < ms.length
        · by_cases hjk : j = k
          · have hI : ((j : Int) != (k : Int)) = false := by rw [hjk]; simp
            clear hRr
            go_wp2_with fail
            have dd0 := cell_regrown d0
            have ss0 := cell_regrown s0
            refine wp_region_quiet_below (by kernel_rfl) (by kernel_rfl) ?_
            repeat (go_big_quiet_step (fail))
            refine wpQuiet_nil ?_
            clear dd0 ss0
            intro _ hw'
            obtain ⟨⟨dq, osq⟩, hw''⟩ := hw'
            have hbq : Below wr.heap.size wr _ := below_regrown wr dq osq
            rw [← hw''] at hbq
            clear hw''
            rename_i W8
            go_wp2_with fail
            go_roundw
            case rel => exact ⟨j + 1, by go_num, hlt, ret_tr hBr hbq⟩
            case measure => simp [intOf]; omega
          · have hI : ((j : Int) != (k : Int)) = true := by rw [bne_iff_ne]; omega
            have hv1 := rdm_keep HV.out hBw
            obtain ⟨b, off, n1, aox, capx, rfl, hb, hx1, -, hrx, a0, a1, a2, a3, a4, a5, a6, a7⟩ := node_at hv1 j hlt
            have hr3' : RdM wr.heap.size (.slice ao3 m3.length cap3) m3 wr := by rw [hl3]; exact hRr
            obtain ⟨b3, off3, n2, aoy, capy, rfl, hb3, hx2, -, hry, y0, y1, y2, y3, y4, y5, y6, y7⟩ := node_at hr3' j (by rw [hl3]; exact hlt)
            have hsame : n2 = n1 := by
              rw [← hx2, ← hx1]
              have e : ∀ (L : List NodeL) (hL : L = (pl ms).set k n) (h : j < L.length), L[j]'h = (pl ms)[j]'(by rw [pl_len]; exact hlt) := by
                intro L hL h
                subst hL
                exact List.getElem_set_ne (Ne.symm hjk) _
              exact e _ hm3 _
            subst hsame
            have hrx' : Rd wr.heap.size 2 (.slice aox n2.names.length capx) n2.names.length (ents n2.names) wr := hrx
            have hnn : n2.names.length ≤ 10000 := HNL.out n2 (by rw [← hx1]; exact List.getElem_mem _)
            have j0 : (0 : Int) ≤ (j : Int) := by omega
            have j1 : (j : Int) < (ms.length : Int) := by omega
            have HSS : Hid (∀ W, Below wr.heap.size wr W → W.cell? ⟨W3.heap.size, 0, none⟩ = some (.slice (some ⟨b3, off3, none⟩) ms.length cap3) ∧ W.cell? ⟨w.heap.size, 0, none⟩ = some (.slice (some ⟨b, off, none⟩) ms.length cap) ∧ W.cell? ⟨b3, off3 + j * 8, none⟩ = some (.int .i64 n2.kind) ∧ W.cell? ⟨b3, off3 + j * 8 + 1, none⟩ = some (.int .i64 n2.mode) ∧ W.cell? ⟨b3, off3 + j * 8 + 2, none⟩ = some (.int .i64 n2.owner) ∧ W.cell? ⟨b3, off3 + j * 8 + 3, none⟩ = some (.int .i64 n2.links) ∧ W.cell? ⟨b3, off3 + j * 8 + 4, none⟩ = some (.int .i64 n2.opn) ∧ W.cell? ⟨b3, off3 + j * 8 + 5, none⟩ = some (.int .i64 n2.up) ∧ W.cell? ⟨b3, off3 + j * 8 + 6, none⟩ = some (.string (bs n2.data)) ∧ W.cell? ⟨b3, off3 + j * 8 + 7, none⟩ = some (.slice aoy n2.names.length capy) ∧ W.cell? ⟨b, off + j * 8, none⟩ = some (.int .i64 n2.kind) ∧ W.cell? ⟨b, off + j * 8 + 1, none⟩ = some (.int .i64 n2.mode) ∧ W.cell? ⟨b, off + j * 8 + 2, none⟩ = some (.int .i64 n2.owner) ∧ W.cell? ⟨b, off + j * 8 + 3, none⟩ = some (.int .i64 n2.links) ∧ W.cell? ⟨b, off + j * 8 + 4, none⟩ = some (.int .i64 n2.opn) ∧ W.cell? ⟨b, off + j * 8 + 5, none⟩ = some (.int .i64 n2.up) ∧ W.cell? ⟨b, off + j * 8 + 6, none⟩ = some (.string (bs n2.data)) ∧ W.cell? ⟨b, off + j * 8 + 7, none⟩ = some (.slice aox n2.names.length capx)) := Lib.hid fun W hw => ⟨(hw.cell (p := ⟨W3.heap.size, 0, none⟩) hwr2).trans s0, (hw.cell (p := ⟨w.heap.size, 0, none⟩) hwr1).trans d0, (hw.cell hb3).trans y0, (hw.cell hb3).trans y1, (hw.cell hb3).trans y2, (hw.cell hb3).trans y3, (hw.cell hb3).trans y4, (hw.cell hb3).trans y5, (hw.cell hb3).trans y6, (hw.cell hb3).trans y7, (hw.cell hb).trans a0, (hw.cell hb).trans a1, (hw.cell hb).trans a2, (hw.cell hb).trans a3, (hw.cell hb).trans a4, (hw.cell hb).trans a5, (hw.cell hb).trans a6, (hw.cell hb).trans a7⟩
            have HNx := Lib.hid fun W (hw : Below wr.heap.size wr W) => node_g n2 hnn (.slice aox n2.names.length capx) W (rd_keep hrx' hw)
            have HNy := Lib.hid fun W (hw : Below wr.heap.size wr W) => node_g n2 hnn (.slice aoy n2.names.length capy) W (rd_keep hry hw)
            have HAl := Lib.hid (alike_g n2 hnn)
            have bw : Below wr.heap.size wr wr := Below.refl _ _
            have bd : Below wr.heap.size wr wr.drew := (Below.refl _ _).drew
            clear hv1 hx1 hx2 hRr hr3' hrx hry hrx'
            go_wp2_with fail
            go_region_held3 (fun W => W.cell? ⟨W3.heap.size, 0, none⟩ = some (.slice (some ⟨b3, off3, none⟩) ms.length cap3) ∧ W.cell? ⟨w.heap.size, 0, none⟩ = some (.slice (some ⟨b, off, none⟩) ms.length cap) ∧ W.cell? ⟨b3, off3 + j * 8, none⟩ = some (.int .i64 n2.kind) ∧ W.cell? ⟨b3, off3 + j * 8 + 1, none⟩ = some (.int .i64 n2.mode) ∧ W.cell? ⟨b3, off3 + j * 8 + 2, none⟩ = some (.int .i64 n2.owner) ∧ W.cell? ⟨b3, off3 + j * 8 + 3, none⟩ = some (.int .i64 n2.links) ∧ W.cell? ⟨b3, off3 + j * 8 + 4, none⟩ = some (.int .i64 n2.opn) ∧ W.cell? ⟨b3, off3 + j * 8 + 5, none⟩ = some (.int .i64 n2.up) ∧ W.cell? ⟨b3, off3 + j * 8 + 6, none⟩ = some (.string (bs n2.data)) ∧ W.cell? ⟨b3, off3 + j * 8 + 7, none⟩ = some (.slice aoy n2.names.length capy) ∧ W.cell? ⟨b, off + j * 8, none⟩ = some (.int .i64 n2.kind) ∧ W.cell? ⟨b, off + j * 8 + 1, none⟩ = some (.int .i64 n2.mode) ∧ W.cell? ⟨b, off + j * 8 + 2, none⟩ = some (.int .i64 n2.owner) ∧ W.cell? ⟨b, off + j * 8 + 3, none⟩ = some (.int .i64 n2.links) ∧ W.cell? ⟨b, off + j * 8 + 4, none⟩ = some (.int .i64 n2.opn) ∧ W.cell? ⟨b, off + j * 8 + 5, none⟩ = some (.int .i64 n2.up) ∧ W.cell? ⟨b, off + j * 8 + 6, none⟩ = some (.string (bs n2.data)) ∧ W.cell? ⟨b, off + j * 8 + 7, none⟩ = some (.slice aox n2.names.length capx))
              (first
                | exact HSS.out _ (by assumption)
                | go_keep)
              (first
                | (go_at_call 24; (with_reducible refine (HNx.out _ (by assumption)).mono ?_); rintro e WX ⟨vX, rfl, gX, hbX⟩; have bX := ret_tr (w := wr) (by assumption) hbX; (try replace gY := rdnm_keep gY hbX))
                | (go_at_call 24; (with_reducible refine (HNy.out _ (by assumption)).mono ?_); rintro e WX ⟨vY, rfl, gY, hbX⟩; have bX := ret_tr (w := wr) (by assumption) hbX; (try replace gX := rdnm_keep gX hbX))
                | (go_at_call 23; (with_reducible refine (HAl.out vY vX _ gY gX).mono ?_); rintro e WX ⟨rfl, hbX⟩; have bX := ret_tr (w := wr) (by assumption) hbX)
                | fail)
            all_goals (
              go_wp2_with fail
              go_roundw
              case rel => exact ⟨j + 1, by go_num, hlt, ret_tr hBr (by assumption)⟩
              case measure => simp [intOf]; omega)
        · have hI2 : decide (j < ms.length) = false := by simp; omega
          clear hlt
          go_wp2_with fail
          go_ret
          exact ⟨rfl, hBw⟩
end Go.Proofs.Ytknjmdgnbhohdaa
