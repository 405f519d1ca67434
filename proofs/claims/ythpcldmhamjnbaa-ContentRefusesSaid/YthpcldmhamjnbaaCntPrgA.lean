/-
  Bytes in memory: copied from texts, turned to texts; the program's sized.
-/
import Derived.Test.YthpcldmhamjnbaaCntSet
import Derived.Deep.OwnRows
import Derived.Laws.CopyRow
import Derived.Laws.BytesString
import Derived.Lib.ConvBytes
import Derived.Lib.SlBuf
namespace Go.Proofs.Ythpcldmhamjnbaa
open Go.RowKit Go.Shelf
attribute [local go_sem ↓] Go.wp_at_zero Go.wp_at_succ

/-- Bytes as cells. -/
def byteC (b : List UInt8) : List Value := b.map fun c => .int .u8 (c.toNat : Int)
theorem byteC_len (b : List UInt8) : (byteC b).length = b.length := List.length_map ..
theorem byteC_app (a b : List UInt8) : byteC (a ++ b) = byteC a ++ byteC b := List.map_append
theorem byteC_take (a : List UInt8) (k : Nat) : byteC (a.take k) = (byteC a).take k := List.map_take ..
theorem byteC_drop (a : List UInt8) (k : Nat) : byteC (a.drop k) = (byteC a).drop k := List.map_drop ..
theorem byteC_one (b : List UInt8) : ∀ v ∈ byteC b, v.oneCell' = true := by
  intro v hv
  simp only [byteC, List.mem_map] at hv
  obtain ⟨c, _, rfl⟩ := hv
  rfl
theorem byteC_zeros (k : Nat) : byteC (List.replicate k 0) = List.replicate k (.int .u8 0) := List.map_replicate ..
/-- A slice that reads as these bytes. -/
def BytesV (b : List UInt8) (v : Value) (W : World) : Prop := Rd W.heap.size 1 v b.length (byteC b) W
theorem bytesV_none (W : World) : BytesV [] (.slice none 0 0) W := Rd.none0 _ _ _
theorem bytesV_keep {b : List UInt8} {v : Value} {W W' : World} (h : BytesV b v W) (hb : Below W.heap.size W W') : BytesV b v W' := (Rd.below h hb).mono hb.size
theorem bytesV_row {b : List UInt8} {g : Nat} {cs : List Value} {cap : Nat} {t : TypeId} {fr : Nat × Nat} {W : World} (h : W.heap[g]? = some (.cells (byteC b ++ cs).toArray t fr)) (hc : b.length ≤ cap) (hm : cap ≤ maxLen) : BytesV b (.slice (some ⟨g, 0, none⟩) b.length cap) W := by
  refine ⟨_, cap, rfl, hc, hm, (fun e => by cases e), by rw [byteC_len, Nat.mul_one], fun _ => ⟨g, 0, rfl, (Array.getElem?_eq_some_iff.1 h).1, fun j u hu => ?_⟩⟩
  have hj : j < (byteC b).length := by
    rcases Nat.lt_or_ge j (byteC b).length with h1 | h1
    · exact h1
    · rw [List.getElem?_eq_none h1] at hu; cases hu
  rw [Nat.zero_add]
  simp only [World.cell?, h, List.getElem?_toArray]
  rw [List.getElem?_append_left hj]
  exact hu
theorem push_bs (l : List UInt8) (c : UInt8) : (bs l).push c = bs (l ++ [c]) := by apply ByteArray.ext; simp [ByteArray.push]
theorem fold_bs (b : List UInt8) : ∀ p : List UInt8, (b.map fun c => (c.toNat : Int)).foldl (fun r n => r.push (UInt8.ofNat n.toNat)) (bs p) = bs (p ++ b) := by
  induction b with
  | nil => intro p; simp
  | cons c b ih =>
    intro p
    simp only [List.map_cons, List.foldl_cons]
    rw [show UInt8.ofNat ((c.toNat : Int)).toNat = c by simp, push_bs, ih]
    simp
/-- Bytes turned to a text. -/
theorem run_str {P : Program} {b : List UInt8} {v : Value} {W : World} (src dst e : TypeId) (hs : P.underlying src = some (.slice e)) (he : P.underlying e = some (.int .u8)) (hd : P.underlying dst = some .string) (h : BytesV b v W) :
    (convert src dst v).run P W = .ok (.string (bs b)) W := by
  obtain ⟨ao, cap, rfl, hc, hm, hz, hl, h⟩ := h
  rw [run_convert_bytes_string W src dst e ao b.length cap hs he hd]
  have hE : bs ([] ++ b) = bs b := by rw [List.nil_append]
  cases ao with
  | none =>
    have : b = [] := List.eq_nil_of_length_eq_zero (by have := hz rfl; omega)
    subst this
    rfl
  | some a =>
    have hload : (loadCells a b.length).run P W = .ok ((b.map fun c => (c.toNat : Int)).map (Value.int .u8)).toArray W := by
      have e1 : (b.map fun c => (c.toNat : Int)).map (Value.int .u8) = byteC b := by rw [List.map_map]; rfl
      rw [e1]
      have := run_loadCells_list (P := P) W a (byteC b) (fun j u hu => by
        have hpos : 0 < b.length := by
          rcases Nat.eq_zero_or_pos b.length with h0 | h0
          · rw [List.eq_nil_of_length_eq_zero h0] at hu; cases hu
          · exact h0
        obtain ⟨g, off, ha, _, hr⟩ := h hpos
        injection ha with ha
        subst ha
        have e2 : (⟨g, off, none⟩ : Addr).add j = ⟨g, off + j, none⟩ := by unfold Addr.add; split <;> simp_all
        rw [e2]
        exact hr j u hu)
      rw [byteC_len] at this
      exact this
    rw [run_bytesToString W a b.length cap _ hload]
    rw [show ByteArray.empty = bs [] from rfl, fold_bs, hE]
/-- copy of a text into a row: as many bytes as there is room for. -/
theorem run_copy_text {P : Program} (w : World) (dT sT ty elem : TypeId) (g o dLen dCap n : Nat) (s : List UInt8) (cur : Array Value) (t : TypeId)
    (hu : P.underlying dT = some (.slice elem)) (hz : (P.info? elem).map (·.size) = some 1) (hg : w.heap[g]? = some (.cells cur t (0, 0))) (hn : Nat.min s.length dLen = n) (hfit : o + n ≤ cur.size) :
    (Builtin.copy_ #[dT, sT] ty #[.slice (some ⟨g, o, none⟩) dLen dCap, .string (bs s)]).run P w =
      .ok (goInt n) (w.setRow g (cur.toList.take o ++ byteC (s.take n) ++ cur.toList.drop (o + n)).toArray) := by
  have hnl : n ≤ s.length := by rw [← hn]; exact Nat.min_le_left _ _
  have hlen : (byteC (s.take n)).length = n := by rw [byteC_len, List.length_take]; omega
  have hst := run_storeCells_at P g o t (byteC (s.take n)) 0 cur w hg (by rw [hlen]; simpa using hfit) (byteC_one _)
  rw [hlen] at hst
  simp only [Nat.add_zero] at hst
  have htk : List.take n (List.map (fun b : UInt8 => Value.int IntKind.u8 (b.toNat : Int)) s) = byteC (s.take n) := by rw [byteC_take]; rfl
  have hsz : (bs s).size.min dLen = n := by rw [bs_size]; exact hn
  cases hq : P.info? elem with
  | none => simp [hq] at hz
  | some i =>
    simp [Builtin.copy_, run_underlying hu, Builtin.lenOf, Builtin.firstCells, sizeOf, typeInfo, hq, hsz]
    first
      | (rw [htk, hst]; simp [Result.andThen])
      | (rw [← byteC_take, hst]; simp [Result.andThen])
/-- The first bytes, or all, and bytes 0. -/
def sizedD (d : List UInt8) (k : Nat) : List UInt8 := d.take k ++ List.replicate (k - d.length) 0
theorem sized_len (d : List UInt8) (k : Nat) : (sizedD d k).length = k := by
  unfold sizedD
  rw [List.length_append, List.length_take, List.length_replicate]
  omega
theorem made_bytes (k : Nat) : (madeCells #[Value.int .u8 0] k).toList = List.replicate k (.int .u8 0) := by
  apply List.ext_getElem
  · simp [madeCells]
  · intro i h1 h2
    simp [madeCells, Nat.mod_one]
theorem info_u8 : (Try.prog.info? 5).map (fun i => (i.zero, i.size, i.bytes)) = some (some (.int .u8 0), 1, 1) := by kernel_rfl
set_option maxRecDepth 100000 in
set_option maxHeartbeats 4000000 in
theorem sized_c (d : List UInt8) (k : Nat) (hk : k ≤ 100000) (w : World) :
    Calls Try.prog 29 #[.string (bs d), .int .i64 k] w fun e w' => e = .returned (.slice (some ⟨w.heap.size, 0, none⟩) k k) ∧ w'.heap[w.heap.size]? = some (.cells (byteC (sizedD d k)).toArray 5 (0, 0)) ∧ w'.heap.size = w.heap.size + 1 ∧ Below w.heap.size w w' := by
  have hmk := run_make_row' (P := Try.prog) 66 5 (.int .u8 0) 1 Try.underlying66 info_u8 rfl .i64 .i64 k (by omega) (by omega) w
  obtain ⟨W1, hW⟩ : ∃ W1, W1 = w.alloc (.cells (madeCells #[Value.int .u8 0] k) 5) := ⟨_, rfl⟩
  have hb1 : Below w.heap.size w W1 := by rw [hW]; exact (Below.refl _ w).alloc (Nat.le_refl _) _
  have hs1 : W1.heap.size = w.heap.size + 1 := by rw [hW]; simp
  have hg1 : W1.heap[w.heap.size]? = some (.cells (madeCells #[Value.int .u8 0] k) 5 (0, 0)) := by rw [hW]; exact heap_alloc_new w _
  rw [← hW] at hmk
  clear hW
  obtain ⟨n, hn⟩ : ∃ n, Nat.min d.length k = n := ⟨_, rfl⟩
  have hnk : n ≤ k := by rw [← hn]; exact Nat.min_le_right _ _
  have hcp := run_copy_text (P := Try.prog) W1 66 9 3 5 w.heap.size 0 k k n d _ _ Try.underlying66 (by kernel_rfl) hg1 hn (by rw [← Array.length_toList, made_bytes, List.length_replicate]; omega)
  have hfin : (madeCells #[Value.int .u8 0] k).toList.take 0 ++ byteC (d.take n) ++ (madeCells #[Value.int .u8 0] k).toList.drop (0 + n) = byteC (sizedD d k) := by
    rw [made_bytes]
    unfold sizedD
    rw [byteC_app, byteC_zeros]
    simp only [List.take_zero, List.nil_append, Nat.zero_add, List.drop_replicate]
    have e1 : d.take n = d.take k := by
      have hn' : n = min d.length k := hn.symm
      subst hn'
      rw [List.take_eq_take_iff]
      omega
    have e2 : k - n = k - d.length := by have : n = min d.length k := hn.symm; omega
    rw [e1, e2]
  rw [hfin] at hcp
  obtain ⟨W2, hW2⟩ : ∃ W2, W2 = W1.setRow w.heap.size (byteC (sizedD d k)).toArray := ⟨_, rfl⟩
  have hg2 : W2.heap[w.heap.size]? = some (.cells (byteC (sizedD d k)).toArray 5 (0, 0)) := by rw [hW2]; exact setRow_heap W1 _ _ _ _ _ hg1
  have hs2 : W2.heap.size = w.heap.size + 1 := by rw [hW2]; simpa [World.setRow] using hs1
  have hb2 : Below w.heap.size w W2 := by rw [hW2]; exact hb1.trans ⟨rfl, rfl, rfl, by simp [World.setRow], fun j hj => setRow_other W1 _ j _ (by omega)⟩
  rw [← hW2] at hcp
  have HF := Lib.hid (And.intro hg2 (And.intro hs2 hb2))
  clear hW2 hfin hg2 hs2 hb2 hb1 hs1 hg1 hn hnk
  go_enter Try.func29, Try.ntmps29
  go_wp2_with (refine Lib.wpList_copy_run _ rfl _ _ 66 9 rfl _ _ rfl rfl hcp ?_)
  go_ret
  exact ⟨rfl, HF.out⟩
end Go.Proofs.Ythpcldmhamjnbaa
