/-
  The program's with: a table of one's own, with a description put, and descriptors turned.
-/
import Derived.Test.YtfcjmcenaankfaaHdlPrgC
namespace Go.Proofs.Ytfcjmcenaankfaa
open Go.RowKit Go.Shelf
attribute [local go_sem ↓] Go.wp_at_zero Go.wp_at_succ

theorem infoDescP : (Try.prog.info? 44).map (fun i => (i.zero, i.size, i.bytes)) = some (some (.agg #[.int .i64 0, .int .i64 0, .bool false, .bool false, .int .i64 0, .int .i64 0]), 6, 40) := by kernel_rfl
set_option maxRecDepth 100000 in
set_option maxHeartbeats 4000000 in
theorem pwith_c (X : Nat → Prop) (t : TabL) (i : Nat) (x : DescL) (us : List TurnL) (ad af au : Option Addr) (cap capf cu : Nat) (w : World) (hX : Old X w) (hT : TabX t (.slice ad t.ds.length cap) (.slice af t.fs.length capf) X w) (hU : RdX 3 (.slice au us.length cu) us.length (cellsU us) X w)
    (hz : SizeT t) (h8 : ∀ r ∈ t.fs, r.length = 8) (hi : i ≤ t.ds.length) (hus : us.length ≤ 10) (hup : ∀ u ∈ us, u.p < t.fs.length ∧ u.fd < 8) :
    Calls Try.prog 30 #[tabV ad t.ds.length cap af t.fs.length capf, .int .i64 (i : Int), dvalD x, .slice au us.length cu] w fun e w' => TabIs X ⟨putD1 t.ds i x, turnF t.fs us⟩ e w w' := by
  have S0 := Lib.hid (Sf.start (G := [TabX t (.slice ad t.ds.length cap) (.slice af t.fs.length capf), RdX 3 (.slice au us.length cu) us.length (cellsU us)]) hX (th2 (TabX.firm _ _ _) hT (RdX.firm _ _ _ _) hU))
  have H0 := Lib.hid hT
  have HU := Lib.hid hU
  have HZ := Lib.hid hz
  have HUP := Lib.hid hup
  have HUL := Lib.hid hus
  have H8 := Lib.hid h8
  have HOLD := Lib.hid hX
  have HRET : Hid (∀ (W : World) (cs : Array Value) (fr), W.heap[w.heap.size + 2]? = some (.cells cs 25 fr) → cs.size = 2 → ∀ tmps : Array Value, tmps.getD 8 undef = .pointer (some ⟨w.heap.size + 2, 0, none⟩) → (results Try.f30 tmps).run Try.prog W = .ok (.agg cs) W) := Lib.hid fun W cs fr h hs tmps ht =>
  results_cell_row (p := 8)  (ty := 25) rfl tmps W (w.heap.size + 2) _ cs fr _ ht h Try.underlying25 rfl (by rw [hs]; kernel_rfl)
  obtain ⟨iD, hD, hDz, hDs, hDb⟩ := info_parts infoDescP
  obtain ⟨iI, hI, hIz, hIs, hIb⟩ := info_parts infoInt
  obtain ⟨iR, hR, hRz, hRs, hRb⟩ := info_parts infoRow
  obtain ⟨n, hn⟩ : ∃ n, n = max t.ds.length (i + 1) := ⟨_, rfl⟩
  have hmx : max (t.ds.length : Int) ((i : Int) + 1) = (n : Int) := by omega
  have HN := Lib.hid hn
  have HI := Lib.hid hi
  have hn1 : t.ds.length ≤ n := by omega
  have hn2 : i < n := by omega
  have hn3 : n ≤ 1001 := by have := hz.1; omega
  have hi1 : i ≤ 1000 := by have := hz.1; omega
  have hl1 : t.fs.length ≤ 20 := hz.2.1
  clear hX hT hU hz h8 hus hup hn
  go_enter Try.func30, Try.ntmps30
  go_upto_region 1 with (fail)
  refine code_fresh3 ?_
  intro W1 hb hA0 hA1 hA2 hs
  have S1 := Lib.hid (S0.out.new3 hb hA0 hA1 hA2)
  clear hb hA0 hA1 hA2 hs
  have wi : IntKind.i64.wrap ((i : Int) + 1) = (i : Int) + 1 := Go.IntWalk.i64_in _ (by omega)
  obtain ⟨base, hbase⟩ : ∃ base, base = W1.heap.size := ⟨_, rfl⟩
  have HBE := Lib.hid hbase
  have HBS := Lib.hid (show w.heap.size ≤ base by rw [hbase]; exact S1.out.bel.size)
  have HXB := Lib.hid (show ∀ g, X g → g < base from fun g hg => Nat.lt_of_lt_of_le (HOLD.out g hg) HBS.out)
  have HL := Lib.hid (show ∀ g ∈ [w.heap.size, w.heap.size + 1, w.heap.size + 2], g < base by rw [hbase]; exact S1.out.ids)
  clear hbase
  obtain ⟨d0, d1⟩ := cells2 (S1.out.at 0 rfl)
  go_upto_region 2 with (first | (at_make; refine wpList_make_full _ rfl (.tmp 20) (.tmp 20) 22 rfl base 44 iD _ 6 Try.underlying22 hD hDz hDs .i64 .i64 _ _ n rfl rfl (by rfl) (by rfl) (by rw [hDb]; omega) (by unfold maxLen; omega) (Nat.le_of_eq HBE.out) ?_; intro W2 ho2 hg2; have S2 := Lib.hid (S1.out.grown (fun P hP => by rcases List.mem_cons.1 hP with rfl | hP; exact H0.out; rw [List.mem_singleton] at hP; subst hP; exact HU.out) hg2 (fun g e => by cases e)); have HD := Lib.hid (own_descs ho2); clear ho2 hg2))
  clear d0 d1
  obtain ⟨d0, d1⟩ := cells2 (S2.out.at 0 rfl)
  obtain ⟨gd, hgd⟩ : ∃ gd, gd = W1.heap.size := ⟨_, rfl⟩
  obtain ⟨cur, hcur, hcz⟩ := own_cells HD.out
  rw [← hgd] at HD hcur ⊢
  have HGD := Lib.hid hgd
  clear hgd
  obtain ⟨rows0, er0, hrd1, -, -⟩ := S2.out.g 0 rfl
  go_upto_region 3 with (first | (refine wpList_copy_rd rfl (.tmp 22) (.tmp 24) 22 22 rfl 44 6 Try.underlying22 (by kernel_rfl) gd n n rfl W2.heap.size _ t.ds.length (cellsD t.ds) rfl hrd1.1 hn1 cur _ hcur (by rw [hcz]; omega) (cellsD_one _) ?_))
  (try simp only [List.getElem_toArray]); (try simp only [List.getElem_cons_succ]); (try simp only [List.getElem_cons_zero]); (try simp only [Act.put]); (try simp only [List.setIfInBounds_toArray]); (try simp only [List.set_cons_succ]); (try simp only [List.set_cons_zero])
  clear rows0 er0 hrd1 d0 d1
  have HO := Lib.hid (OwnT.nil 44 48 3 HD.out)
  obtain ⟨D, hD0⟩ : ∃ D, D = t.ds ++ List.replicate (n - t.ds.length) zeroD := ⟨_, rfl⟩
  have hDl : D.length = n := by rw [hD0, List.length_append, List.length_replicate]; omega
  have HDD := Lib.hid hD0
  clear hD0 hcur hcz cur
  have hgw : W2.grownBy (W2.setCells gd 0 (cellsD t.ds)) (some gd) := grown_set W2 gd _ _
  have HOn : Hid (OwnT 44 48 3 base ⟨D, []⟩ (.slice (some ⟨gd, 0, none⟩) n n) (.slice none 0 0) [] (W2.setCells gd 0 (cellsD t.ds))) := Lib.hid (by rw [HDD.out]; exact HO.out.segD (by rw [List.length_replicate]) (cells_over t.ds hn1) (by rw [List.length_append, List.length_replicate, List.length_replicate]; omega) (by rw [cellsD_len]; show 0 + t.ds.length * 6 ≤ (List.replicate n zeroD).length * 6; rw [List.length_replicate]; omega) (by decide) (by decide) rfl (fun k hk => heap_setCells gd k hk _ _ _))
  have S3 := Lib.hid (S2.out.grown (fun P hP => by rcases List.mem_cons.1 hP with rfl | hP; exact H0.out; rw [List.mem_singleton] at hP; subst hP; exact HU.out) hgw (fun g e => by rw [← Option.some.inj e]; exact ⟨Nat.le_trans HBS.out (HO.out.ds.lt gd rfl).1, S2.out.apart3 HO.out.ds HL.out _ rfl⟩))
  clear HO
  have HO := HOn
  clear HOn hgw
  generalize W2.setCells gd 0 (cellsD t.ds) = W4 at *
  obtain ⟨g, cp9, e9, hf9, ht9, -, -, -, -, -, -⟩ := HO.out.descO i (show i < D.length by omega)
  injection e9 with e9a e9c e9b
  injection e9a with e9a
  injection e9a with e9a
  subst e9a
  have i0 : (0 : Int) ≤ (i : Int) := by omega
  have i1 : (i : Int) < (n : Int) := by omega
  clear e9b e9c hf9
  have h_x := (S3.out.at 1 rfl)
  go_upto_region 4 with (first | (refine wpList_load_row rfl 44 _ rfl _ rfl 44 _ (0, 0) _ h_x Try.underlying44 rfl (by kernel_rfl) ?_) | (refine wpList_store_seg rfl 44 _ _ rfl gd (i * 6) rfl rfl ht9 (by kernel_rfl) rfl ?_))
  obtain ⟨D2, hD2⟩ : ∃ D2, D2 = D.set i x := ⟨_, rfl⟩
  have HD2 : Hid (D2 = putD1 t.ds i x) := Lib.hid (by rw [hD2, HDD.out, HN.out]; exact put_over t.ds (by have := HI.out; omega) x)
  have HD3 := Lib.hid hD2
  clear hD2
  have hgw : W4.grownBy (W4.setCells gd (i * 6) [.int .i64 x.ino, .int .i64 x.pos, .bool x.rd, .bool x.wr, .int .i64 x.refs, .int .i64 x.lock]) (some gd) := grown_set W4 gd _ _
  have HOn : Hid (OwnT 44 48 3 base ⟨D2, []⟩ (.slice (some ⟨gd, 0, none⟩) n n) (.slice none 0 0) [] (W4.setCells gd (i * 6) [.int .i64 x.ino, .int .i64 x.pos, .bool x.rd, .bool x.wr, .int .i64 x.refs, .int .i64 x.lock])) := Lib.hid (by rw [HD3.out]; exact HO.out.writeD (by rw [hDl]) (show i < D.length by omega) x (by decide) (by decide))
  have S5 := Lib.hid (S3.out.grown (fun P hP => by rcases List.mem_cons.1 hP with rfl | hP; exact H0.out; rw [List.mem_singleton] at hP; subst hP; exact HU.out) hgw (fun g e => by rw [← Option.some.inj e]; exact ⟨Nat.le_trans HBS.out (HO.out.ds.lt gd rfl).1, S3.out.apart3 HO.out.ds HL.out _ rfl⟩))
  clear ht9 h_x
  clear HO
  have HO := HOn
  clear HOn hgw
  generalize W4.setCells gd (i * 6) [.int .i64 x.ino, .int .i64 x.pos, .bool x.rd, .bool x.wr, .int .i64 x.refs, .int .i64 x.lock] = W6 at *
  clear hDl HDD HD3 HD
  obtain ⟨d0, d1⟩ := cells2 (S5.out.at 0 rfl)
  go_upto_region 5 with (first | (at_make; refine wpList_make_full _ rfl (.tmp 32) (.tmp 32) 23 rfl base 48 iR _ 1 Try.underlying23 hR hRz hRs .i64 .i64 _ _ t.fs.length rfl rfl (by rfl) (by rfl) (by rw [hRb]; omega) (by unfold maxLen; omega) (Nat.le_of_lt (Nat.lt_of_le_of_lt (HO.out.ds.lt gd rfl).1 (HO.out.ds.lt gd rfl).2)) ?_; intro W8 ho8 hg8; have S8 := Lib.hid (S5.out.grown (fun P hP => by rcases List.mem_cons.1 hP with rfl | hP; exact H0.out; rw [List.mem_singleton] at hP; subst hP; exact HU.out) hg8 (fun g e => by cases e)); have HO8 := Lib.hid ((HO.out.below (gr_below (Below.refl _ _) hg8 (fun g e => by cases e))).start ho8); clear ho8 hg8))
  clear d0 d1 HO
  have HO := HO8
  clear HO8
  obtain ⟨gf, hgf⟩ : ∃ gf, gf = W6.heap.size := ⟨_, rfl⟩
  rw [← hgf] at HO ⊢
  rw [← partF_zero] at HO
  clear hgf
  obtain ⟨d0, d1⟩ := cells2 (S8.out.at 0 rfl)
  go_wp2_with fail
  go_loopw [37] (fun j wr => ∃ (k : Nat) (rows : List RowV), j = .int .i64 k ∧ k ≤ t.fs.length ∧ Hid (Sf X w [(w.heap.size, #[.slice ad t.ds.length cap, .slice af t.fs.length capf], 25), (w.heap.size + 1, #[.int .i64 x.ino, .int .i64 x.pos, .bool x.rd, .bool x.wr, .int .i64 x.refs, .int .i64 x.lock], 44), (w.heap.size + 2, #[.slice none 0 0, .slice none 0 0], 25)] [TabX t (.slice ad t.ds.length cap) (.slice af t.fs.length capf), RdX 3 (.slice au us.length cu) us.length (cellsU us)] wr) ∧ Hid (OwnT 44 48 3 base ⟨D2, partF t.fs k⟩ (.slice (some ⟨gd, 0, none⟩) n n) (.slice (some ⟨gf, 0, none⟩) t.fs.length t.fs.length) rows wr)) (fun j _ => t.fs.length - (RowKit.intOf j).toNat)
  case atStart => exact ⟨0, _, rfl, Nat.zero_le _, S8, HO⟩
  case round =>
    clear S8 HO S1 S2 d0 d1
    obtain ⟨k, rows, rfl, hk, S6, HO⟩ := hrel
    by_cases hlt : k < t.fs.length
    · have iL1 : decide (k < t.fs.length) = true := decide_eq_true (by omega)
      have iM1 : decide ((k : Int) < (t.fs.length : Int)) = true := decide_eq_true (by omega)
      have k0 : (0 : Int) ≤ (k : Int) := by omega
      have k1 : (k : Int) < (t.fs.length : Int) := by omega
      have wk : IntKind.i64.wrap ((k : Int) + 1) = (k : Int) + 1 := Go.IntWalk.i64_in _ (by omega)
      obtain ⟨b, off, ar, cr, eaf, hbw, cR0, hR0⟩ := TabX.row H0.out k hlt
      subst eaf
      have hr8 : (t.fs[k]).length = 8 := H8.out _ (List.getElem_mem hlt)
      obtain ⟨r, hrow⟩ : ∃ r, r = t.fs[k] := ⟨_, rfl⟩
      rw [← hrow] at cR0 hR0 hr8
      have HROW := Lib.hid hrow
      have HR8 := Lib.hid hr8
      clear hrow hr8
      have HCR := Lib.hid (show ∀ Z : World, Below w.heap.size w Z → Z.cell? ⟨b, off + k, none⟩ = some (.slice ar r.length cr) from fun _ hb => (hb.cell (p := ⟨b, off + k, none⟩) hbw).trans cR0)
      have HR0 := Lib.hid hR0
      clear cR0 hR0
      have cR := HCR.out _ S6.out.bel
      have hrl : rows.length = t.fs.length := by have := rows_len HO.out.fs; rw [this]; exact partF_len _ hk
      have HRL := Lib.hid hrl
      clear hrl
      go_upto_region 8 with (fail)
      clear cR
      go_upto_region 9 with (first | (at_make; refine wpList_make_full _ rfl (.tmp 45) (.tmp 45) 48 rfl base 3 iI _ 1 Try.underlying48 hI hIz hIs .i64 .i64 _ _ r.length rfl rfl (by rfl) (by rfl) (by rw [hIb, HR8.out]; decide) (by rw [HR8.out]; decide) (Nat.le_of_lt (Nat.lt_of_le_of_lt (HO.out.ds.lt gd rfl).1 (HO.out.ds.lt gd rfl).2)) ?_; intro W11 ho11 hg11; have S11 := Lib.hid (S6.out.grown (fun P hP => by rcases List.mem_cons.1 hP with rfl | hP; exact H0.out; rw [List.mem_singleton] at hP; subst hP; exact HU.out) hg11 (fun g e => by cases e)); have HR11 := Lib.hid (own_ints ho11); have HB11 := Lib.hid (gr_below (Below.refl wr.heap.size wr) hg11 (fun g e => by cases e)); have HO11 := Lib.hid (HO.out.below HB11.out); have hk5 : k < (rows.map (·.2)).length := (by rw [List.length_map]; have := HRL.out; omega); obtain ⟨gf2, cpf2, ef2, -, hcf, hff⟩ := own_at HO11.out.out (by have := HRL.out; omega); injection ef2 with ef2a ef2c ef2b; injection ef2a with ef2a; injection ef2a with ef2a; subst ef2a; have cO := hcf k _ (List.getElem?_eq_getElem hk5); have fO := hff k; clear ho11 hg11 hcf hff ef2b ef2c))
      clear cO fO hk5
      obtain ⟨g2, hg2⟩ : ∃ g2, g2 = wr.heap.size := ⟨_, rfl⟩
      have HNR := Lib.hid (show ∀ m ∈ rows, m.2.ownBlock ≠ some g2 from fun m hm e => by have := ((HO.out.row m hm).lt g2 e).2; omega)
      rw [← hg2] at HR11 ⊢
      clear HO
      have HO := HO11
      clear HO11 hg2
      have hgw : W11.grownBy (W11.setCell ⟨gf, k, none⟩ (.slice (some ⟨g2, 0, none⟩) r.length r.length)) (some gf) := grown_set W11 gf _ [(.slice (some ⟨g2, 0, none⟩) r.length r.length)]
      have HOn : Hid (OwnT 44 48 3 base ⟨D2, (partF t.fs k).set k (List.replicate r.length 0)⟩ (.slice (some ⟨gd, 0, none⟩) n n) (.slice (some ⟨gf, 0, none⟩) t.fs.length t.fs.length) (rows.set k (List.replicate r.length 0, (.slice (some ⟨g2, 0, none⟩) r.length r.length))) (W11.setCell ⟨gf, k, none⟩ (.slice (some ⟨g2, 0, none⟩) r.length r.length))) := Lib.hid (HO.out.putRow (by rw [HRL.out]) (show k < (partF t.fs k).length by rw [partF_len _ hk]; exact hlt) HR11.out (fun g e m hm => by rw [← e]; exact HNR.out m hm) (by decide) (by decide) rfl (fun j hj => heap_setCells gf j hj [(.slice (some ⟨g2, 0, none⟩) r.length r.length)] _ _))
      have S12 := Lib.hid (S11.out.grown (fun P hP => by rcases List.mem_cons.1 hP with rfl | hP; exact H0.out; rw [List.mem_singleton] at hP; subst hP; exact HU.out) hgw (fun g e => by rw [← Option.some.inj e]; exact ⟨Nat.le_trans HBS.out (HO.out.out.lt gf rfl).1, S11.out.apart HO.out.out rfl _ rfl⟩))
      clear HO
      have HO := HOn
      clear HOn hgw
      generalize W11.setCell ⟨gf, k, none⟩ (.slice (some ⟨g2, 0, none⟩) r.length r.length) = W13 at *
      clear HR11 HNR
      have hrk : (rows.set k (List.replicate r.length 0, (.slice (some ⟨g2, 0, none⟩) r.length r.length)))[k]? = some (List.replicate r.length 0, (.slice (some ⟨g2, 0, none⟩) r.length r.length)) := by rw [List.getElem?_set, if_pos rfl, if_pos (by have := HRL.out; omega)]
      obtain ⟨gf2, cpf2, ef2, -, hcf, -⟩ := own_at HO.out.out (by rw [List.length_set]; have := HRL.out; omega)
      injection ef2 with ef2a ef2c ef2b
      injection ef2a with ef2a
      injection ef2a with ef2a
      subst ef2a
      have cO : W13.cell? ⟨gf, k, none⟩ = some (.slice (some ⟨g2, 0, none⟩) r.length r.length) := hcf k _ (by rw [List.getElem?_map, hrk]; rfl)
      have hrow9 := HO.out.row _ (List.mem_of_getElem? hrk)
      obtain ⟨cur, hcur, hcz⟩ := own_cells hrow9
      have HRK := Lib.hid hrk
      clear hrk hcf ef2b ef2c
      go_upto_region 10 with (first | (refine wpList_copy_rd rfl (.tmp 51) (.tmp 52) 48 48 rfl 3 1 Try.underlying48 (by kernel_rfl) g2 r.length r.length rfl W13.heap.size _ r.length (intC r) rfl ((RdX.firm _ _ _ _).keep HR0.out S12.out.bel).1 (Nat.le_refl _) cur _ hcur (by rw [hcz]; exact Nat.le_refl _) (intC_one _) ?_))
      (try simp only [List.getElem_toArray]); (try simp only [List.getElem_cons_succ]); (try simp only [List.getElem_cons_zero]); (try simp only [Act.put]); (try simp only [List.setIfInBounds_toArray]); (try simp only [List.set_cons_succ]); (try simp only [List.set_cons_zero])
      clear cO hcur hcz cur
      have HW9 := Lib.hid hrow9
      clear hrow9
      have hgw : W13.grownBy (W13.setCells g2 0 (intC r)) (some g2) := grown_set W13 g2 _ _
      have HOn : Hid (OwnT 44 48 3 base ⟨D2, partF t.fs (k + 1)⟩ (.slice (some ⟨gd, 0, none⟩) n n) (.slice (some ⟨gf, 0, none⟩) t.fs.length t.fs.length) ((rows.set k (List.replicate r.length 0, (.slice (some ⟨g2, 0, none⟩) r.length r.length))).set k (r, .slice (some ⟨g2, 0, none⟩) (List.replicate r.length (0 : Int)).length r.length)) (W13.setCells g2 0 (intC r))) := Lib.hid (by have h := HO.out.fillRow (W' := W13.setCells g2 0 (intC r)) (r := r) (show k < ((partF t.fs k).set k (List.replicate r.length 0)).length by rw [List.length_set, partF_len _ hk]; exact hlt) (by rw [HRK.out, List.length_replicate]) (by rw [List.length_replicate]) (by decide) (by decide) rfl (fun k hk => heap_setCells g2 k hk _ _ _); rw [List.set_set] at h; have e : (partF t.fs k).set k r = partF t.fs (k + 1) := (by rw [HROW.out]; exact partF_next _ hlt); rw [← e]; exact h)
      have S14 := Lib.hid (S12.out.grown (fun P hP => by rcases List.mem_cons.1 hP with rfl | hP; exact H0.out; rw [List.mem_singleton] at hP; subst hP; exact HU.out) hgw (fun g e => by rw [← Option.some.inj e]; exact ⟨Nat.le_trans HBS.out (HW9.out.lt g2 rfl).1, S12.out.apart HW9.out rfl _ rfl⟩))
      clear HO
      have HO := HOn
      clear HOn hgw
      generalize W13.setCells g2 0 (intC r) = W15 at *
      go_wp2_with fail
      go_roundw
      case rel => exact ⟨k + 1, _, by go_num, hlt, S14, HO⟩
      case measure => simp [RowKit.intOf]; omega
    · have iL1 : decide (k < t.fs.length) = false := decide_eq_false (by omega)
      have iM1 : decide ((k : Int) < (t.fs.length : Int)) = false := decide_eq_false (by omega)
      have hke : k = t.fs.length := by omega
      subst hke
      rw [partF_all] at HO
      clear hlt hk
      go_wp2_with fail
      go_loopw [57] (fun j wr => ∃ (k : Nat) (rows : List RowV), j = .int .i64 k ∧ k ≤ us.length ∧ Hid (Sf X w [(w.heap.size, #[.slice ad t.ds.length cap, .slice af t.fs.length capf], 25), (w.heap.size + 1, #[.int .i64 x.ino, .int .i64 x.pos, .bool x.rd, .bool x.wr, .int .i64 x.refs, .int .i64 x.lock], 44), (w.heap.size + 2, #[.slice none 0 0, .slice none 0 0], 25)] [TabX t (.slice ad t.ds.length cap) (.slice af t.fs.length capf), RdX 3 (.slice au us.length cu) us.length (cellsU us)] wr) ∧ Hid (OwnT 44 48 3 base ⟨D2, turnF t.fs (us.take k)⟩ (.slice (some ⟨gd, 0, none⟩) n n) (.slice (some ⟨gf, 0, none⟩) t.fs.length t.fs.length) rows wr)) (fun j _ => us.length - (RowKit.intOf j).toNat)
      case atStart => exact ⟨0, _, rfl, Nat.zero_le _, S6, HO⟩
      case round =>
        clear S6 HO
        obtain ⟨k, rows, rfl, hk, S6, HO⟩ := hrel
        by_cases hlt : k < us.length
        · have iL2 : decide (k < us.length) = true := decide_eq_true (by omega)
          have iM2 : decide ((k : Int) < (us.length : Int)) = true := decide_eq_true (by omega)
          have k0 : (0 : Int) ≤ (k : Int) := by omega
          have k1 : (k : Int) < (us.length : Int) := by omega
          have hul := HUL.out
          have wk : IntKind.i64.wrap ((k : Int) + 1) = (k : Int) + 1 := Go.IntWalk.i64_in _ (by omega)
          obtain ⟨b, off, eau, cU⟩ := RdX.turn (S6.out.g 1 rfl) k hlt
          subst eau
          obtain ⟨hup1, hup2⟩ := HUP.out _ (List.getElem_mem hlt)
          have HT := Lib.hid (turnF_next t.fs us hlt)
          obtain ⟨u, hu⟩ : ∃ u, u = us[k] := ⟨_, rfl⟩
          rw [← hu] at cU hup1 hup2 HT
          clear hu
          have h8k := turnF_eight H8.out (us.take k) (fun v hv => (HUP.out v (List.mem_of_mem_take hv)).1)
          have hlk : (turnF t.fs (us.take k)).length = t.fs.length := turnF_len _ _
          obtain ⟨FK, hFK⟩ : ∃ FK, FK = turnF t.fs (us.take k) := ⟨_, rfl⟩
          rw [← hFK] at HO HT h8k hlk
          clear hFK
          have hp : u.p < FK.length := by omega
          have hp8 := h8k _ (List.getElem_mem hp)
          have hf : u.fd < (FK[u.p]).length := by omega
          have HLK := Lib.hid hlk
          have HP8 := Lib.hid hp8
          clear hlk hp8 h8k
          go_upto_region 14 with (first | (refine wpList_load_mid rfl 62 _ rfl _ (off + k * 3) rfl _ _ cU Try.underlying62 rfl (by kernel_rfl) ?_) | (refine wpList_fresh1 ?_; intro W31 hb hn hs; have S31 := Lib.hid (S6.out.new1 hb hn); have HO31 := Lib.hid (HO.out.below hb); have h_u := S31.out.at 3 rfl; clear hb hn hs) | (refine wpList_store_row rfl 62 _ _ rfl _ rfl rfl h_u rfl (by kernel_rfl) rfl ?_; intro W32 hb hg hs hn; have S32 := Lib.hid (S31.out.set 3 rfl hb hg hs hn); have HO32 := Lib.hid (HO31.out.other h_u (by decide) (by decide) (by decide) hg); clear hb hg hs hn))
          clear cU h_u HO31 HO
          have HO := HO32
          clear HO32
          obtain ⟨bu, hbu⟩ : ∃ bu, bu = wr.heap.size := ⟨_, rfl⟩
          rw [← hbu] at S32 ⊢
          clear hbu
          obtain ⟨gf2, cpf2, gr, crr, e8, hrw, cR, fR, cI⟩ := HO.out.rowO u.p hp u.fd hf
          injection e8 with e8a e8c e8b
          injection e8a with e8a
          injection e8a with e8a
          subst e8a
          clear e8b e8c
          have hro : W32.ownsRow base 3 1 (.slice (some ⟨gr, 0, none⟩) (FK[u.p]).length crr) (FK[u.p]).length (intC (FK[u.p])) := HO.out.row _ (List.mem_of_getElem? hrw)
          have p0 : (0 : Int) ≤ (u.p : Int) := by omega
          have p1 : (u.p : Int) < (t.fs.length : Int) := by have := HLK.out; omega
          have f0 : (0 : Int) ≤ (u.fd : Int) := by omega
          have f1 : (u.fd : Int) < ((FK[u.p]).length : Int) := by omega
          obtain ⟨R, hR0⟩ : ∃ R, R = FK[u.p] := ⟨_, rfl⟩
          rw [← hR0] at hrw cR hro f1
          have HRP := Lib.hid (show 0 < R.length ∧ u.fd < R.length by omega)
          have HRW := Lib.hid hrw
          have HRO := Lib.hid hro
          have HR0 := Lib.hid hR0
          clear hrw hro hR0
          have HO2 := Lib.hid (HO.out.below (Below.refl _ W32).drew)
          clear HO
          have HRO2 := Lib.hid (ownsRow_below HRO.out (Below.refl W32.heap.size W32).drew (Nat.le_refl _))
          have cRd : W32.drew.cell? ⟨gf, u.p, none⟩ = some (.slice (some ⟨gr, 0, none⟩) R.length crr) := cR
          have cId : (W32.drew.cell? ⟨gr, u.fd, none⟩).isSome = true := by show (W32.cell? _).isSome = true; rw [cI]; rfl
          have fRd : W32.drew.frozen? ⟨gr, u.fd, none⟩ = false := fR u.fd
          clear HRO
          refine wp_region_held_drew (S := fun W => W.cell? ⟨bu, 0, none⟩ = some (.int .i64 (u.p : Int)) ∧ W.cell? ⟨bu, 1, none⟩ = some (.int .i64 (u.fd : Int)) ∧ W.cell? ⟨bu, 2, none⟩ = some (.int .i64 u.dst) ∧ W.cell? ⟨gf, u.p, none⟩ = some (.slice (some ⟨gr, 0, none⟩) R.length crr) ∧ True) (by kernel_rfl) ⟨(cells3 (S32.out.at 3 rfl)).1, (cells3 (S32.out.at 3 rfl)).2.1, (cells3 (S32.out.at 3 rfl)).2.2, cR, trivial⟩ (fun hHeld => ?_)
          have S33 := Lib.hid (S32.out.call (Below.refl W32.heap.size W32).drew)
          generalize W32.drew = W33 at *
          have HO := HO2
          have HRO := HRO2
          clear HO2 HRO2 cI fR
          refine wpAnyH_take (i := 0) (v := ?v1) rfl (by kernel_rfl) (by kernel_rfl) (by kernel_rfl) (fun _ _ _ h => h) (Or.inl ⟨by rfl, ?hy1⟩) hHeld ?rest1
          case hy1 => (intro w hSw; (try dsimp only at hSw); (try go_split_ands); go_simp; first | done | with_reducible rfl)
          (try simp only [List.getElem_toArray]); (try simp only [List.getElem_cons_succ]); (try simp only [List.getElem_cons_zero]); (try simp only [Act.put]); (try simp only [List.setIfInBounds_toArray]); (try simp only [List.set_cons_succ]); (try simp only [List.set_cons_zero])
          refine wpAnyH_take (i := 1) (v := ?v2) rfl (by kernel_rfl) (by kernel_rfl) (by kernel_rfl) (fun _ _ _ h => h) (Or.inl ⟨by rfl, ?hy2⟩) hHeld ?rest2
          case hy2 => (intro w hSw; (try dsimp only at hSw); (try go_split_ands); go_simp; first | done | with_reducible rfl)
          (try simp only [List.getElem_toArray]); (try simp only [List.getElem_cons_succ]); (try simp only [List.getElem_cons_zero]); (try simp only [Act.put]); (try simp only [List.setIfInBounds_toArray]); (try simp only [List.set_cons_succ]); (try simp only [List.set_cons_zero])
          refine wpAnyH_take (i := 2) (v := ?v3) rfl (by kernel_rfl) (by kernel_rfl) (by kernel_rfl) (fun _ _ _ h => h) (Or.inl ⟨by rfl, ?hy3⟩) hHeld ?rest3
          case hy3 => (intro w hSw; (try dsimp only at hSw); (try go_split_ands); go_simp; first | done | with_reducible rfl)
          (try simp only [List.getElem_toArray]); (try simp only [List.getElem_cons_succ]); (try simp only [List.getElem_cons_zero]); (try simp only [Act.put]); (try simp only [List.setIfInBounds_toArray]); (try simp only [List.set_cons_succ]); (try simp only [List.set_cons_zero])
          refine wpAnyH_take (i := 3) (v := ?v4) rfl (by kernel_rfl) (by kernel_rfl) (by kernel_rfl) (fun _ _ _ h => h) (Or.inl ⟨by rfl, ?hy4⟩) hHeld ?rest4
          case hy4 => (intro w hSw; (try dsimp only at hSw); (try go_split_ands); go_simp; first | done | with_reducible rfl)
          (try simp only [List.getElem_toArray]); (try simp only [List.getElem_cons_succ]); (try simp only [List.getElem_cons_zero]); (try simp only [Act.put]); (try simp only [List.setIfInBounds_toArray]); (try simp only [List.set_cons_succ]); (try simp only [List.set_cons_zero])
          refine wpAnyH_take (i := 4) (v := ?v5) rfl (by kernel_rfl) (by kernel_rfl) (by kernel_rfl) (fun _ _ _ h => h) (Or.inl ⟨by rfl, ?hy5⟩) hHeld ?rest5
          case hy5 => (intro w hSw; (try dsimp only at hSw); (try go_split_ands); go_simp; first | done | with_reducible rfl)
          (try simp only [List.getElem_toArray]); (try simp only [List.getElem_cons_succ]); (try simp only [List.getElem_cons_zero]); (try simp only [Act.put]); (try simp only [List.setIfInBounds_toArray]); (try simp only [List.set_cons_succ]); (try simp only [List.set_cons_zero])
          refine wpAnyH_take (i := 5) (v := ?v6) rfl (by kernel_rfl) (by kernel_rfl) (by kernel_rfl) (fun _ _ _ h => h) (Or.inl ⟨by rfl, ?hy6⟩) hHeld ?rest6
          case hy6 => (intro w hSw; (try dsimp only at hSw); (try go_split_ands); go_simp; first | done | with_reducible rfl)
          (try simp only [List.getElem_toArray]); (try simp only [List.getElem_cons_succ]); (try simp only [List.getElem_cons_zero]); (try simp only [Act.put]); (try simp only [List.setIfInBounds_toArray]); (try simp only [List.set_cons_succ]); (try simp only [List.set_cons_zero])
          refine wpAnyH_take (i := 6) (v := ?v7) rfl (by kernel_rfl) (by kernel_rfl) (by kernel_rfl) (fun _ _ _ h => h) (Or.inl ⟨by rfl, ?hy7⟩) hHeld ?rest7
          case hy7 => (intro w hSw; (try dsimp only at hSw); (try go_split_ands); go_simp; first | done | with_reducible rfl)
          (try simp only [List.getElem_toArray]); (try simp only [List.getElem_cons_succ]); (try simp only [List.getElem_cons_zero]); (try simp only [Act.put]); (try simp only [List.setIfInBounds_toArray]); (try simp only [List.set_cons_succ]); (try simp only [List.set_cons_zero])
          refine wpAnyH_take (i := 7) (v := ?v8) rfl (by kernel_rfl) (by kernel_rfl) (by kernel_rfl) (fun _ _ _ h => h) (Or.inl ⟨by rfl, ?hy8⟩) hHeld ?rest8
          case hy8 => (intro w hSw; (try dsimp only at hSw); (try go_split_ands); go_simp; first | done | with_reducible rfl)
          (try simp only [List.getElem_toArray]); (try simp only [List.getElem_cons_succ]); (try simp only [List.getElem_cons_zero]); (try simp only [Act.put]); (try simp only [List.setIfInBounds_toArray]); (try simp only [List.set_cons_succ]); (try simp only [List.set_cons_zero])
          refine wpAnyH_take (i := 8) (v := ?v9) rfl (by kernel_rfl) (by kernel_rfl) (by kernel_rfl) (fun _ _ _ h => h) (Or.inl ⟨by rfl, ?hy9⟩) hHeld ?rest9
          case hy9 => (intro w hSw; (try dsimp only at hSw); (try go_split_ands); go_simp; first | done | with_reducible rfl)
          (try simp only [List.getElem_toArray]); (try simp only [List.getElem_cons_succ]); (try simp only [List.getElem_cons_zero]); (try simp only [Act.put]); (try simp only [List.setIfInBounds_toArray]); (try simp only [List.set_cons_succ]); (try simp only [List.set_cons_zero])
          refine wpAnyH_take (i := 9) (v := ?v10) rfl (by kernel_rfl) (by kernel_rfl) (by kernel_rfl) (fun _ _ _ h => h) (Or.inl ⟨by rfl, ?hy10⟩) hHeld ?rest10
          case hy10 => (intro w hSw; (try dsimp only at hSw); (try go_split_ands); go_simp; first | done | with_reducible rfl)
          (try simp only [List.getElem_toArray]); (try simp only [List.getElem_cons_succ]); (try simp only [List.getElem_cons_zero]); (try simp only [Act.put]); (try simp only [List.setIfInBounds_toArray]); (try simp only [List.set_cons_succ]); (try simp only [List.set_cons_zero])
          refine wpAnyH_ready (rs := [10]) (by kernel_rfl) (by simp) ?_
          refine AllReadyH.cons rfl (fun K hK => ?_) AllReadyH.nil
          rw [if_pos (by rfl)]
          refine wp_store_one (v := .int .i64 u.dst) 3 _ _ rfl gr u.fd rfl rfl rfl rfl cId fRd (by kernel_rfl) ?_
          clear cId fRd hHeld
          have hgw : W33.grownBy (W33.setCell ⟨gr, u.fd, none⟩ (.int .i64 u.dst)) (some gr) := grown_set W33 gr _ [.int .i64 u.dst]
          have hrow := HRW.out
          rw [HR0.out] at hrow
          have HOn : Hid (OwnT 44 48 3 base ⟨D2, putF FK u.p u.fd u.dst⟩ (.slice (some ⟨gd, 0, none⟩) n n) (.slice (some ⟨gf, 0, none⟩) t.fs.length t.fs.length) (rows.set u.p ((FK[u.p]).set u.fd u.dst, .slice (some ⟨gr, 0, none⟩) (FK[u.p]).length crr)) (W33.setCell ⟨gr, u.fd, none⟩ (.int .i64 u.dst))) := Lib.hid (HO.out.writeF hp hf hrow u.dst (by decide) (by decide))
          have hrc : (W33.setCell ⟨gr, u.fd, none⟩ (.int .i64 u.dst)).cell? ⟨gf, u.p, none⟩ = some (.slice (some ⟨gr, 0, none⟩) R.length crr) := by rw [World.cell?_of_block (a := ⟨gf, u.p, none⟩) (Below.heap_setCell W33 ⟨gr, u.fd, none⟩ _ gf (fun e => own_ne HO.out.out HRO.out (by decide) gf rfl (by rw [e]; rfl)))]; exact cRd
          have S40 := Lib.hid (S33.out.grown (fun P hP => by rcases List.mem_cons.1 hP with rfl | hP; exact H0.out; rw [List.mem_singleton] at hP; subst hP; exact HU.out) hgw (fun g e => by rw [← Option.some.inj e]; exact ⟨Nat.le_trans HBS.out (HRO.out.lt gr rfl).1, S33.out.apart HRO.out rfl _ rfl⟩))
          clear hgw hrow HO HRO cRd
          have HO := HOn
          clear HOn
          generalize W33.setCell ⟨gr, u.fd, none⟩ (.int .i64 u.dst) = W41 at *
          refine hK.out _ _ ⟨(cells3 (S40.out.at 3 rfl)).1, (cells3 (S40.out.at 3 rfl)).2.1, (cells3 (S40.out.at 3 rfl)).2.2, hrc, trivial⟩ (fun hHeld => ?_)
          clear hK K hrc
          (try simp only [List.getElem_toArray]); (try simp only [List.getElem_cons_succ]); (try simp only [List.getElem_cons_zero]); (try simp only [Act.put]); (try simp only [List.setIfInBounds_toArray]); (try simp only [List.set_cons_succ]); (try simp only [List.set_cons_zero])
          refine wpAnyH_done (by kernel_rfl) ?_ _
          go_wp2_with fail
          rw [← HT.out] at HO
          go_roundw
          case rel => exact ⟨k + 1, _, by go_num, hlt, Lib.hid (S40.out.leave (by simp)), HO⟩
          case measure => simp [RowKit.intOf]; omega
        · have iL2 : decide (k < us.length) = false := decide_eq_false (by omega)
          have iM2 : decide ((k : Int) < (us.length : Int)) = false := decide_eq_false (by omega)
          have hke : k = us.length := by omega
          subst hke
          rw [List.take_length] at HO
          clear hlt hk
          have h_r := S6.out.at 2 rfl
          go_wp2_with (first | (refine wpList_store_row rfl 25 _ _ rfl _ rfl rfl h_r rfl (by kernel_rfl) rfl ?_; intro W51 hb hg hs hn; have S51 := Lib.hid (S6.out.set 2 rfl hb hg hs hn); have HO51 := Lib.hid (HO.out.before (HL.out _ (by simp)) hg); clear hb hg hs hn))
          refine bodyPost_ret (HRET.out _ _ _ (S51.out.at 2 rfl) rfl _ rfl) rfl ?_
          rw [← HD2.out]
          have hT51 := HO51.out.tab HXB.out
          obtain ⟨adz, capz, afz, capfz, ez1, ez2⟩ := hT51.form
          refine ⟨_, _, ?_, hT51, S51.out.bel⟩
          rfl
end Go.Proofs.Ytfcjmcenaankfaa
