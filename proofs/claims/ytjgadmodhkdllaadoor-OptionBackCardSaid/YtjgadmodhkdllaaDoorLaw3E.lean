/-
  The walk of OptionGroups.
-/
import Derived.Test.YtjgadmodhkdllaaDoorLaw3D
import Derived.Test.YtjgadmodhkdllaaDoorArgs
namespace Go.Proofs.YtjgadmodhkdllaaDoor
open Go.RowKit Go.Shelf

theorem index_const (l : Str) (j : Nat) (x : Int) (hx : x = j) (hj : j < l.length) (w : World) :
    (Instr.index 9 (.string (bs l)) (.int .i64 x)).run Tryd.prog w = .ok (.int .u8 (l.getD j 0).toNat) w := by
  subst hx
  have hj' : j < (bs l).size := by rw [bs_size]; exact hj
  have hg := bs_get l j hj'
  have hd : l.getD j 0 = (bs l)[j]'hj' := by rw [hg, List.getD_eq_getElem?_getD, List.getElem?_eq_getElem hj]; rfl
  rw [hd]
  clear hg hd
  generalize bs l = s at *
  rw [run_index_string (P := Tryd.prog) _ _ _ _ _ Tryd.underlying9]
  simp [hj']
theorem bytes_at (l : List UInt8) (k : Nat) (h : k < l.length) : (bytes l)[k]? = some (.int .u8 l[k].toNat) := by simp [bytes, h]
theorem groupG_take (ws : List UInt8) (k : Nat) (h : k < ws.length) : groupG (ws.take (k + 1)) = groupG (ws.take k) ++ [letterG ws[k]] := by
  unfold groupG
  rw [List.take_succ_eq_append_getElem h, List.map_append]
  rfl
theorem ones_app (a b : List UInt8) : ones (a ++ b) = ones a ++ ones b := by simp [ones]
theorem groupG_len (ws : List UInt8) : (groupG ws).length = ws.length := by simp [groupG]
theorem heap_two (W : World) (A B : Obj) : ((W.alloc A).alloc B).heap[W.heap.size + 1]? = some B := by
  have := heap_alloc_new (W.alloc A) B
  simpa using this
theorem dec_refl {α : Type} [DecidableEq α] (a : α) : decide (a = a) = true := by simp
theorem cat2 (c : UInt8) : (⟨#[45]⟩ : ByteArray) ++ ⟨#[c]⟩ = ⟨#[45, c]⟩ := by apply ByteArray.ext; simp
theorem cat_one (q : Str) (c : UInt8) : bs q ++ ⟨#[c]⟩ = bs (q ++ [c]) := by apply ByteArray.ext; simp

set_option maxRecDepth 100000 in
set_option maxHeartbeats 4000000 in
theorem groups_small (vw : Value) (ws : List UInt8) (v o : Str) (w : World) (a0 a1 : Addr) (m : Int) (hg : Gl w.heap.size a0 a1 m w) (hw : Rd w.heap.size 1 vw ws.length (bytes ws) w) (hn : ws.length ≤ 20) (hn0 : 0 < ws.length) (hp : v.length ≤ 50) (hq : o.length ≤ 50)
    (ho0 : o ≠ []) (ho1 : o.head? ≠ some 45) :
    Calls Tryd.prog 6 #[vw, .string (bs v), .string (bs o)] w fun e W' => e = .returned (.bool true) ∧ Below w.heap.size w W' := by
  have h0 : decide ((20 : Int) < (ws.length : Int)) = false := by simp; omega
  have h00 : ((ws.length : Int) == 0) = false := by rw [beq_eq_false_iff_ne]; omega
  have h1 := small50 (n := v.length) (by omega)
  have h2 := small50 (n := o.length) (by omega)
  have hem : o.isEmpty = false := by simpa using ho0
  obtain ⟨c0, r0, hoe⟩ : ∃ c r, o = c :: r := by
    cases o with
    | nil => exact absurd rfl ho0
    | cons c r => exact ⟨c, r, rfl⟩
  have hc0 : c0 ≠ 45 := fun e => ho1 (by rw [hoe, e]; rfl)
  have hx0 : ∀ h, (bs o)[0]'h = c0 := fun h => by subst hoe; rfl
  have hI0 : ((c0.toNat : Int) == 45) = false := u8_ne (k := 45) (by decide) hc0
  have hsz : 0 < (bs o).size := by rw [bs_size, hoe]; simp
  have HOP : Hid (operandL o = true) := Lib.hid (op_first o fun h => ho1 h.2)
  obtain ⟨j0, hj, hy0, hy1, hy2⟩ := info_parts infoStr
  obtain ⟨aow, capw, rfl, _, _⟩ := hw.form
  have HG := Lib.hid hg
  have HW := Lib.hid hw
  clear hg hw ho0 ho1 hoe hc0
  go_enter Tryd.func6, Tryd.ntmps6
  go_wp2_with fail
  refine (shown_any _ a0 a1 m _ HG.out (Nat.le_refl _)).mono ?_
  rintro e w1 ⟨rfl, hb1⟩
  have s1 := hb1.size
  have HW1 := Lib.hid (HW.out.below hb1)
  clear hx0 hI0 hsz hem h0 h00
  go_wp2_with fail
  go_loopw [7, 8, 9] (fun g q i wr => ∃ k : Nat, i = .int .i64 k ∧ k ≤ ws.length ∧ g = .string (bs (45 :: groupG (ws.take k))) ∧ wr.ownsRow w1.heap.size 9 1 q k (strs (ones (groupG (ws.take k)))) ∧ Below w1.heap.size w1 wr) (fun _ _ i _ => ws.length - (intOf i).toNat)
  case atStart => exact ⟨0, rfl, Nat.zero_le _, rfl, World.ownsRow_lit (size := 1) w1 #[] 0 (Nat.le_refl _) (by decide) rfl, (Below.refl _ _).alloc (Nat.le_refl _) _⟩
  case round =>
    obtain ⟨k, rfl, hk, rfl, hown, hB⟩ := hrel
    have sB := hB.size
    obtain ⟨G, hG⟩ : ∃ G, G = groupG (ws.take k) := ⟨_, rfl⟩
    have hGl : G.length = k := by rw [hG, groupG_len, List.length_take]; omega
    rw [← hG] at hown ⊢
    have HGG := Lib.hid hG
    clear hG
    by_cases hlt : k < ws.length
    · obtain ⟨b, off, cap', e, _, _, hb, hlen, hc⟩ := HW1.out.at (by omega)
      injection e with e1 _ e2
      subst e1
      subst e2
      have hcell := (hB.cell (p := ⟨b, off + k, none⟩) (by show b < _; omega)).trans (hc _ _ (bytes_at ws k hlt))
      obtain ⟨u, hu⟩ : ∃ u, u = ws[k] := ⟨_, rfl⟩
      rw [← hu] at hcell
      obtain ⟨d, hd⟩ : ∃ d : Nat, d = u.toNat := ⟨_, rfl⟩
      have hd0 : (0 : Int) ≤ (d : Int) := by omega
      have hd1 : (d : Int) ≤ 255 := by have := u.toNat_lt; omega
      rw [← hd] at hcell
      have hix := fun w => index_const [112, 114, 102] (d % 3) ((d : Int) % 3) (by omega) (by show d % 3 < 3; exact Nat.mod_lt _ (by decide)) w
      obtain ⟨c, hcd⟩ : ∃ c, c = letterG u := ⟨_, rfl⟩
      have hcl : ([112, 114, 102] : Str).getD (d % 3) 0 = c := by rw [hcd, hd]; rfl
      rw [hcl] at hix
      have hcv : (convert 41 9 (.slice (some ⟨wr.heap.size, 0, none⟩) 1 1)).run Tryd.prog (wr.alloc (.cells #[.int .u8 c.toNat] 5)) = .ok (.string ⟨#[c]⟩) (wr.alloc (.cells #[.int .u8 c.toNat] 5)) :=
        bytes_back Tryd.underlying41 Tryd.underlying5 Tryd.underlying9 wr 5 [c]
      have HT : Hid (groupG (ws.take (k + 1)) = G ++ [c]) := Lib.hid (by rw [groupG_take ws k hlt, ← HGG.out, ← hu, ← hcd])
      have HS : Hid (strs (ones (G ++ [c])) = strs (ones G) ++ [.string ⟨#[45, c]⟩]) := Lib.hid (by rw [ones_app, strs_app]; rfl)
      have hcat1 := cat_one (45 :: G) c
      have hcat2 := cat2 c
      have hroom : ¬ 9223372036854775807 < (45 :: G).length + 1 := by simp; omega
      have hroom2 : ¬ 9223372036854775807 < G.length + 1 + 1 := by omega
      clear hc hcl hcd hd hu
      go_wp2_with (at_builtin; go_loud (refine wpList_append_own _ rfl (.tmp 71) (.tmp 74) 22 rfl w1.heap.size 9 j0 _ 1 16 Tryd.underlying22 hj hy0 hy1 hy2 rfl (by decide) _ k _ rfl ((hown.alloc _).alloc _) ⟨wr.heap.size + 1, 0, none⟩ 1 1 [.string ⟨#[45, c]⟩] rfl rfl (World.news_of_block (cs := #[.string ⟨#[45, c]⟩]) (t := 9) (fr := (0, 0)) (heap_two wr _ _)) (by simp [Value.oneCell']) (by unfold maxLen; omega) (by omega) (by simp; omega) ?_))
      intro v3 w3 ho3 hgr3 _
      have hB3 := below_appended (by simp) (hB.alloc sB _) (hown.alloc _) hgr3
      rw [← HS.out, ← HT.out] at ho3
      go_wp2_with fail
      go_roundw
      case rel => exact ⟨k + 1, by go_num, hlt, by rw [HT.out], ho3, hB3⟩
      case measure => simp [intOf]; omega
    · have hke : k = ws.length := by omega
      have HT : Hid (G = groupG ws) := Lib.hid (by rw [HGG.out, hke, List.take_length])
      have hI2 : decide (k < ws.length) = false := by simp; omega
      have hB0 := ret_tr hb1 hB
      have hcat1 := cat_one (45 :: G) 109
      have hroom : ¬ 9223372036854775807 < (45 :: G).length + 1 := by simp; omega
      have hroom2 : ¬ 9223372036854775807 < G.length + 1 + 1 := by omega
      have hGb : G.length ≤ 20 := by omega
      clear hke
      go_wp2_with fail
      obtain ⟨F, hF⟩ : ∃ F, F = flagsG ws v := ⟨_, rfl⟩
      have HP1 : Hid (parseL prfmSpec [45 :: (G ++ [109]), v, o] = .ok (F, [o])) := Lib.hid (by rw [hF, HT.out]; exact parse_g1 ws v o HOP.out)
      have HP2 : Hid (parseL prfmSpec (ones G ++ [[45, 109], v, o]) = .ok (F, [o])) := Lib.hid (by rw [hF, HT.out]; exact parse_g2 ws v o HOP.out)
      have HP3 : Hid (v ≠ [] → parseL prfmSpec [45 :: (G ++ 109 :: v), o] = .ok (F, [o])) := Lib.hid (fun hv => by rw [hF, HT.out]; exact parse_g3 ws v o HOP.out hv)
      have HFl : Hid (F.length = ws.length + 1) := Lib.hid (by rw [hF, flagsG_len])
      have hFb : F.length ≤ 10000000 := by have := HFl.out; omega
      have hr1 : Rd _ 1 (.slice (some ⟨wr.heap.size, 0, none⟩) 3 3) 3 (strs [45 :: (G ++ [109]), v, o]) _ := Rd_new wr [45 :: (G ++ [109]), v, o] 9 #[.string (bs (45 :: (G ++ [109]))), .string (bs v), .string (bs o)] rfl (by simp)
      have bA := below_al wr (.cells #[.string (bs (45 :: (G ++ [109]))), .string (bs v), .string (bs o)] 9)
      have bB := ret_tr hB0 bA
      have HGA := Lib.hid (HG.out.below bB (Nat.le_refl _))
      have HA1 : Hid (∀ a ∈ ([45 :: (G ++ [109]), v, o] : List Str), a.length ≤ 65000) := Lib.hid (by
        intro a ha
        rcases List.mem_cons.1 ha with rfl | ha
        · simp; omega
        · rcases List.mem_cons.1 ha with rfl | ha
          · omega
          · rw [List.mem_singleton] at ha; subst ha; omega)
      have HA3 : Hid (∀ a ∈ ([45 :: (G ++ 109 :: v), o] : List Str), a.length ≤ 65000) := Lib.hid (by
        intro a ha
        rcases List.mem_cons.1 ha with rfl | ha
        · simp; omega
        · rw [List.mem_singleton] at ha; subst ha; omega)
      have HA2 : Hid (∀ a ∈ ones G ++ [[45, 109], v, o], a.length ≤ 65000) := Lib.hid (by
        intro a ha
        rcases List.mem_append.1 ha with ha | ha
        · unfold ones at ha; obtain ⟨c, _, rfl⟩ := List.mem_map.1 ha; simp
        · rcases List.mem_cons.1 ha with rfl | ha
          · decide
          · rcases List.mem_cons.1 ha with rfl | ha
            · omega
            · rw [List.mem_singleton] at ha; subst ha; omega)
      have h00s : (strs [o])[0]? = some (.string (bs o)) := rfl
      have hfi : ((F.length : Int) == (ws.length : Int) + 1) = true := by rw [beq_iff_eq, HFl.out]; omega
      have hqlt : ∀ g, Value.ownBlock _ = some g → g < wr.heap.size := fun g hg => (hown.lt g hg).2
      obtain ⟨aoq, capq, hqf⟩ := own_form hown
      have hqf' := hqf
      subst hqf'
      have HO : Hid (wr.ownsRow w1.heap.size 9 1 (.slice aoq k capq) k (strs (ones G))) := Lib.hid hown
      have HQL := Lib.hid hqlt
      clear hF hcat1 hown hqlt hqf
      refine (parse_okN _ a0 a1 m prfmSpec _ [45 :: (G ++ [109]), v, o] _ HGA.out bB.size hr1 (by simp) (by decide) HA1.out F [o] HP1.out).mono ?_
      rintro e w2 ⟨va, vo, rfl, ha2, ho2, hb2, hna, hno⟩
      have b2 := ret_tr bB hb2
      have hW2 := ret_tr bA hb2
      have hB2 : Below w1.heap.size w1 w2 := ret_tr hB hW2
      have HO2 := ownsRow_below HO.out hW2 (Nat.le_refl _)
      obtain ⟨aoa, capa, rfl, _, _⟩ := ha2.form
      obtain ⟨aoo, capo0, rfl, _, _⟩ := ho2.form
      have hal : ∀ ob : Obj, Below w2.heap.size w2 (w2.alloc ob) := fun ob => below_al w2 ob
      have hA2 := Lib.hid (fun ob => ha2.below (hal ob))
      have hO2 := Lib.hid (fun ob => ho2.below (hal ob))
      have hNA : Hid (∀ g, (Value.slice aoq k capq).ownBlock = some g → (Value.slice aoa F.length capa).ownBlock ≠ some g) := Lib.hid (fun g hg e => by
        have h1 := HQL.out g hg
        have h2 := hna g e
        have h3 := bA.size
        omega)
      have hNO : Hid (∀ g, (Value.slice aoq k capq).ownBlock = some g → (Value.slice aoo [o].length capo0).ownBlock ≠ some g) := Lib.hid (fun g hg e => by
        have h1 := HQL.out g hg
        have h2 := hno g e
        have h3 := bA.size
        omega)
      have hHO2 := Lib.hid HO2
      have s2 := hB2.size
      have HS2 : Hid (strs (ones G) ++ [.string ⟨#[45, 109]⟩, .string (bs v), .string (bs o)] = strs (ones G ++ [[45, 109], v, o])) := Lib.hid (by rw [strs_app]; rfl)
      clear ha2 ho2 hna hno hb2 hr1 bA hal HO2
      go_wp2_with (at_builtin; go_loud (refine wpList_append_own _ rfl (.tmp 87) (.tmp 90) 22 rfl w1.heap.size 9 j0 _ 1 16 Tryd.underlying22 hj hy0 hy1 hy2 rfl (by decide) _ k _ rfl (hHO2.out.alloc _) ⟨w2.heap.size, 0, none⟩ 3 3 [.string ⟨#[45, 109]⟩, .string (bs v), .string (bs o)] rfl rfl (World.news_of_block (cs := #[.string ⟨#[45, 109]⟩, .string (bs v), .string (bs o)]) (t := 9) (fr := (0, 0)) (heap_alloc_new w2 _)) (by simp [Value.oneCell']) (by unfold maxLen; omega) (by omega) (by simp; omega) ?_))
      intro v3 w3 ho3 hgr3 _
      have hB3 := ret_tr hb1 (below_appended (Nat.le_refl _) hB2 hHO2.out hgr3)
      have hA3 := (hA2.out _).grown hgr3 (by simp) hNA.out
      have hO3 := (hO2.out _).grown hgr3 (by simp) hNO.out
      have h23 : w2.heap.size ≤ w3.heap.size := by have := hgr3.size; simp at this; omega
      rw [HS2.out] at ho3
      obtain ⟨M, hM⟩ : ∃ M, M = ones G ++ [[45, 109], v, o] := ⟨_, rfl⟩
      have hMl : M.length = k + 3 := by rw [hM]; simp [ones, hGl]
      rw [← hM, ← hMl] at ho3
      have HP2' : Hid (parseL prfmSpec M = .ok (F, [o])) := Lib.hid (by rw [hM]; exact HP2.out)
      have HA2' : Hid (∀ a ∈ M, a.length ≤ 65000) := Lib.hid (by rw [hM]; exact HA2.out)
      have hR3 := Lib.hid (Rd.own (B := w3.heap.size) ho3 (Nat.le_refl _))
      have hMb : M.length ≤ 100 := by omega
      have HA3w := Lib.hid (hA3.mono h23)
      have HO3w := Lib.hid (hO3.mono h23)
      have HG3 := Lib.hid (HG.out.below hB3 (Nat.le_refl _))
      clear hA3 hO3 hM hMl ho3 hgr3 b2
      go_wp2_with fail
      refine (parse_ok _ a0 a1 m prfmSpec _ M _ HG3.out hB3.size hR3.out hMb (by decide) HA2'.out F [o] HP2'.out).mono ?_
      rintro e w4 ⟨vb, vp, rfl, hb4r, hp4r, hb4⟩
      have b4 := ret_tr hB3 hb4
      have s4 := hb4.size
      have AA4 := Lib.hid ((HA3w.out.below hb4).mono s4)
      have OO4 := Lib.hid ((HO3w.out.below hb4).mono s4)
      have BB4 := Lib.hid hb4r
      have PP4 := Lib.hid hp4r
      obtain ⟨aob, capb, rfl, _, _⟩ := hb4r.form
      obtain ⟨aop, capp, rfl, _, _⟩ := hp4r.form
      clear hb4r hp4r hb4
      by_cases hv0 : v = []
      · have hev : v.isEmpty = true := by rw [hv0]; rfl
        have AA := AA4
        have BB := BB4
        have OO := OO4
        have PP := PP4
        have bb := b4
        clear AA4 BB4 OO4 PP4 b4 hv0
        go_wp2_with fail
        refine (its_any _ _ F _ AA.out (Nat.le_refl _) hFb).mono ?_
        rintro e x1 ⟨ya, rfl, hya, hx1⟩
        have c1 := ret_tr bb hx1
        have sx1 := hx1.size
        have BB1 := Lib.hid (BB.out.below hx1)
        have OO1 := Lib.hid (OO.out.below hx1)
        have PP1 := Lib.hid (PP.out.below hx1)
        have YA := Lib.hid hya
        clear hya hx1
        go_wp2_with fail
        refine (its_any _ _ F _ BB1.out sx1 hFb).mono ?_
        rintro e x2 ⟨yb, rfl, hyb, hx2⟩
        have c2 := ret_tr c1 hx2
        have sx2 := hx2.size
        have OO2 := Lib.hid (OO1.out.below (hx2.mono sx1))
        have PP2 := Lib.hid (PP1.out.below (hx2.mono sx1))
        have YA2 := Lib.hid ((YA.out.below hx2).mono sx2)
        have YB := Lib.hid hyb
        clear hyb hx2
        go_wp2_with fail
        refine (same_any _ _ _ F F _ YA2.out YB.out hFb hFb).mono ?_
        rintro e x3 ⟨rfl, n3, rfl⟩
        rw [dec_refl]
        go_wp2_with fail
        refine (texts_any _ _ _ [o] [o] _ (OO2.out.drewN n3) (PP2.out.drewN n3) (by simp) (by simp)).mono ?_
        rintro e x4 ⟨rfl, n4, rfl⟩
        rw [dec_refl]
        obtain ⟨bo, offo, capo, e, _, _, _, _, hco⟩ := OO2.out.at (by simp)
        have hco0 := hco 0 _ h00s
        rw [Nat.add_zero] at hco0
        injection e with e1 _ e2
        subst e1 e2
        clear hco
        go_wp2_with fail
        go_ret
        exact ⟨rfl, below_drewN c2 _⟩
      · have hev : v.isEmpty = false := by simpa using hv0
        have HP3' := Lib.hid (HP3.out hv0)
        have hcat3 := cat_one (45 :: G) 109
        have hcat4 : bs (45 :: (G ++ [109])) ++ bs v = bs (45 :: (G ++ 109 :: v)) := by rw [bs_app]; simp
        have hroom4 : ¬ 9223372036854775807 < G.length + 1 + 1 + v.length := by omega
        have hroom5 : ¬ 9223372036854775807 < (45 :: (G ++ [109])).length + v.length := by simp; omega
        have hr5 : Rd _ 1 (.slice (some ⟨w4.heap.size, 0, none⟩) 2 2) 2 (strs [45 :: (G ++ 109 :: v), o]) _ := Rd_new w4 [45 :: (G ++ 109 :: v), o] 9 #[.string (bs (45 :: (G ++ 109 :: v))), .string (bs o)] rfl (by simp)
        have bA4 := below_al w4 (.cells #[.string (bs (45 :: (G ++ 109 :: v))), .string (bs o)] 9)
        have bB4 := ret_tr b4 bA4
        have HGA4 := Lib.hid (HG.out.below bB4 (Nat.le_refl _))
        have HR5 := Lib.hid hr5
        clear hv0 hr5
        go_wp2_with fail
        refine (parse_ok _ a0 a1 m prfmSpec _ [45 :: (G ++ 109 :: v), o] _ HGA4.out bB4.size HR5.out (by simp) (by decide) HA3.out F [o] HP3'.out).mono ?_
        rintro e w5 ⟨vc, vq, rfl, hc5r, hq5r, hb5⟩
        have hb45 := ret_tr bA4 hb5
        have b5 := ret_tr b4 hb45
        have s5 := hb45.size
        have AA5 := Lib.hid ((AA4.out.below hb45).mono s5)
        have OO5 := Lib.hid ((OO4.out.below hb45).mono s5)
        have BB5 := Lib.hid ((BB4.out.below hb45).mono s5)
        have PP5 := Lib.hid ((PP4.out.below hb45).mono s5)
        have CC5 := Lib.hid hc5r
        have QQ5 := Lib.hid hq5r
        obtain ⟨aoc, capc, rfl, _, _⟩ := hc5r.form
        obtain ⟨aoz, capz, rfl, _, _⟩ := hq5r.form
        clear hc5r hq5r hb5 hb45 bA4 AA4 OO4 BB4 PP4
        go_wp2_with fail
        refine (its_any _ _ F _ AA5.out (Nat.le_refl _) hFb).mono ?_
        rintro e x1 ⟨ya, rfl, hya, hx1⟩
        have c1 := ret_tr b5 hx1
        have sx1 := hx1.size
        have AA6 := Lib.hid ((AA5.out.below hx1).mono sx1)
        have OO6 := Lib.hid ((OO5.out.below hx1).mono sx1)
        have BB6 := Lib.hid ((BB5.out.below hx1).mono sx1)
        have PP6 := Lib.hid ((PP5.out.below hx1).mono sx1)
        have CC6 := Lib.hid ((CC5.out.below hx1).mono sx1)
        have QQ6 := Lib.hid ((QQ5.out.below hx1).mono sx1)
        have YA := Lib.hid hya
        clear hya hx1 AA5 OO5 BB5 PP5 CC5 QQ5
        go_wp2_with fail
        refine (its_any _ _ F _ CC6.out (Nat.le_refl _) hFb).mono ?_
        rintro e x2 ⟨yc, rfl, hyc, hx2⟩
        have c2 := ret_tr c1 hx2
        have sx2 := hx2.size
        have AA7 := Lib.hid ((AA6.out.below hx2).mono sx2)
        have OO7 := Lib.hid ((OO6.out.below hx2).mono sx2)
        have BB7 := Lib.hid ((BB6.out.below hx2).mono sx2)
        have PP7 := Lib.hid ((PP6.out.below hx2).mono sx2)
        have QQ7 := Lib.hid ((QQ6.out.below hx2).mono sx2)
        have YA7 := Lib.hid ((YA.out.below hx2).mono sx2)
        have YC := Lib.hid hyc
        clear hyc hx2 AA6 OO6 BB6 PP6 CC6 QQ6
        go_wp2_with fail
        refine (same_any _ _ _ F F _ YA7.out YC.out hFb hFb).mono ?_
        rintro e x3 ⟨rfl, n3, rfl⟩
        rw [dec_refl]
        go_wp2_with fail
        refine (texts_any _ _ _ [o] [o] _ (OO7.out.drewN n3) (QQ7.out.drewN n3) (by simp) (by simp)).mono ?_
        rintro e x4 ⟨rfl, n4, rfl⟩
        rw [dec_refl]
        have AA := Lib.hid (AA7.out.drewN (n3 + n4))
        have BB := Lib.hid (BB7.out.drewN (n3 + n4))
        have OO := Lib.hid (OO7.out.drewN (n3 + n4))
        have PP := Lib.hid (PP7.out.drewN (n3 + n4))
        have bb := below_drewN c2 (n3 + n4)
        clear AA7 BB7 OO7 PP7 c2 YA YA7 YC QQ7
        have hxs : w4.heap.size ≤ x2.heap.size := by omega
        clear sx2 sx1 s5
        go_wp2_with fail
        refine (its_any _ _ F _ AA.out (Nat.le_refl _) hFb).mono ?_
        rintro e z1 ⟨ya, rfl, hya, hz1⟩
        have d1 := ret_tr bb hz1
        have sz1 := hz1.size
        have BB1 := Lib.hid (BB.out.below hz1)
        have OO1 := Lib.hid (OO.out.below hz1)
        have PP1 := Lib.hid (PP.out.below hz1)
        have YA := Lib.hid hya
        clear hya hz1
        go_wp2_with fail
        refine (its_any _ _ F _ BB1.out sz1 hFb).mono ?_
        rintro e z2 ⟨yb, rfl, hyb, hz2⟩
        have d2 := ret_tr d1 hz2
        have sz2 := hz2.size
        have OO2 := Lib.hid (OO1.out.below (hz2.mono sz1))
        have PP2 := Lib.hid (PP1.out.below (hz2.mono sz1))
        have YA2 := Lib.hid ((YA.out.below hz2).mono sz2)
        have YB := Lib.hid hyb
        clear hyb hz2
        go_wp2_with fail
        refine (same_any _ _ _ F F _ YA2.out YB.out hFb hFb).mono ?_
        rintro e z3 ⟨rfl, n5, rfl⟩
        rw [dec_refl]
        go_wp2_with fail
        refine (texts_any _ _ _ [o] [o] _ (OO2.out.drewN n5) (PP2.out.drewN n5) (by simp) (by simp)).mono ?_
        rintro e z4 ⟨rfl, n6, rfl⟩
        rw [dec_refl]
        obtain ⟨bo, offo, capo, e, _, _, _, _, hco⟩ := OO2.out.at (by simp)
        have hco0 := hco 0 _ h00s
        rw [Nat.add_zero] at hco0
        injection e with e1 _ e2
        subst e1 e2
        clear hco
        go_wp2_with fail
        go_ret
        exact ⟨rfl, below_drewN d2 _⟩

set_option maxRecDepth 100000 in
set_option maxHeartbeats 2000000 in
theorem groups_walk (vw : Value) (ws : List UInt8) (t1 t2 : ByteArray) (_ : t1.size ≤ 9223372036854775807) (_ : t2.size ≤ 9223372036854775807) (w : World) (a0 a1 : Addr) (m : Int) (hg : Gl w.heap.size a0 a1 m w) (hw : Rd w.heap.size 1 vw ws.length (bytes ws) w) :
    Calls Tryd.prog 6 #[vw, .string t1, .string t2] w fun e W' => e = .returned (.bool true) ∧ Below w.heap.size w W' := by
  obtain ⟨v, rfl⟩ : ∃ s, t1 = bs s := ⟨_, bs_of t1⟩
  obtain ⟨o, rfl⟩ : ∃ s, t2 = bs s := ⟨_, bs_of t2⟩
  rename_i hsz hsf
  rw [bs_size] at hsz hsf
  obtain ⟨aow, capw, rfl, hwn, hwm⟩ := hw.form
  unfold maxLen at hwm
  have HG := Lib.hid hg
  by_cases h20 : 20 < ws.length
  · have h0 : decide ((20 : Int) < (ws.length : Int)) = true := by simp; omega
    clear hg hw
    go_enter Tryd.func6, Tryd.ntmps6
    go_wp2_with fail
    refine (shown_any _ a0 a1 m _ HG.out (Nat.le_refl _)).mono ?_
    rintro e w1 ⟨rfl, hb1⟩
    go_wp2_with fail
    go_ret
    exact ⟨rfl, hb1⟩
  have h0 : decide ((20 : Int) < (ws.length : Int)) = false := by simp; omega
  by_cases hz : ws.length = 0
  · have h00 : ((ws.length : Int) == 0) = true := by rw [hz]; rfl
    clear hg hw hz
    go_enter Tryd.func6, Tryd.ntmps6
    go_wp2_with fail
    refine (shown_any _ a0 a1 m _ HG.out (Nat.le_refl _)).mono ?_
    rintro e w1 ⟨rfl, hb1⟩
    go_wp2_with fail
    go_ret
    exact ⟨rfl, hb1⟩
  have h00 : ((ws.length : Int) == 0) = false := by rw [beq_eq_false_iff_ne]; omega
  by_cases hp : 50 < v.length
  · have h1 := big50 hp
    clear hg hw
    go_enter Tryd.func6, Tryd.ntmps6
    go_wp2_with fail
    refine (shown_any _ a0 a1 m _ HG.out (Nat.le_refl _)).mono ?_
    rintro e w1 ⟨rfl, hb1⟩
    go_wp2_with fail
    go_ret
    exact ⟨rfl, hb1⟩
  have h1 := small50 hp
  by_cases hq : 50 < o.length
  · have h2 := big50 hq
    clear hg hw
    go_enter Tryd.func6, Tryd.ntmps6
    go_wp2_with fail
    refine (shown_any _ a0 a1 m _ HG.out (Nat.le_refl _)).mono ?_
    rintro e w1 ⟨rfl, hb1⟩
    go_wp2_with fail
    go_ret
    exact ⟨rfl, hb1⟩
  have h2 := small50 hq
  by_cases ho : o = []
  · have hem : o.isEmpty = true := by rw [ho]; rfl
    clear hg hw ho
    go_enter Tryd.func6, Tryd.ntmps6
    go_wp2_with fail
    refine (shown_any _ a0 a1 m _ HG.out (Nat.le_refl _)).mono ?_
    rintro e w1 ⟨rfl, hb1⟩
    go_wp2_with fail
    go_ret
    exact ⟨rfl, hb1⟩
  by_cases hd : o.head? = some 45
  · have hem : o.isEmpty = false := by simpa using ho
    obtain ⟨r, hoe⟩ : ∃ r, o = 45 :: r := by
      cases o with
      | nil => exact absurd rfl ho
      | cons c r => exact ⟨r, by simpa using hd⟩
    have hx0 : ∀ h, (bs o)[0]'h = 45 := fun h => by subst hoe; rfl
    have hsz0 : 0 < (bs o).size := by rw [bs_size, hoe]; simp
    clear hg hw ho hd hoe
    go_enter Tryd.func6, Tryd.ntmps6
    go_wp2_with fail
    refine (shown_any _ a0 a1 m _ HG.out (Nat.le_refl _)).mono ?_
    rintro e w1 ⟨rfl, hb1⟩
    go_wp2_with fail
    go_ret
    exact ⟨rfl, hb1⟩
  exact groups_small _ ws v o w a0 a1 m hg hw (by omega) (by omega) (by omega) (by omega) ho hd
end Go.Proofs.YtjgadmodhkdllaaDoor
