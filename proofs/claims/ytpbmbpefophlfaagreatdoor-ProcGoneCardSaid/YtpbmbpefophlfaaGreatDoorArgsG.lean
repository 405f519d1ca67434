/-
  A call, off the argument that it was handed in by.
-/
import Derived.Test.YtpbmbpefophlfaaGreatDoorR49
namespace Go.Proofs.YtpbmbpefophlfaaGreatDoor
open Go.ChangeShapes Go.WideShapes Go.RowKit
open Go.Deep (open_slice choose_lt oneCellFields hone_of)
theorem czStr12 : Tryz.prog.cellsOf 9 = 1 := by kernel_rfl
theorem czCall12 : Tryz.prog.cellsOf 33 = 9 := by kernel_rfl
section
variable {H : Type} {enc : TypeId × Value → H} {W : World}
set_option maxRecDepth 100000 in
/-- A call, off its nine cells. -/
theorem open_call9 {fuel : Nat} {cs : List Value} {x : DataW H × List MemPlace} (hl : cs.length = 9) (hx : DataW.trod enc Tryz.prog W 0 (fun _ => true) true fuel 33 cs = some x) : ∃ c : CallL, cs = [.int .i64 c.kind, .int .i64 c.fd, .int .i64 c.fd2, .int .i64 c.n, .int .i64 c.mode, .int .i64 c.flags, .string (bs c.path), .string (bs c.path2), .string (bs c.data)] ∧ InI c.fd ∧ InI c.fd2 := by
  obtain ⟨xs, n', _, _, _, hxl, hg⟩ := DataW.trod_struct Tryz.underlying33 hx
  match cs, hl with
  | [c0, c1, c2, c3, c4, c5, c6, c7, c8], _ =>
    have k0 : DataW.trod enc Tryz.prog W 0 (fun _ => true) true n' 3 (([c0, c1, c2, c3, c4, c5, c6, c7, c8].drop 0).take (Tryz.prog.cellsOf 3)) = xs[0]? := by have := hg 0 _ rfl; exact this
    have k1 : DataW.trod enc Tryz.prog W 0 (fun _ => true) true n' 3 (([c0, c1, c2, c3, c4, c5, c6, c7, c8].drop 1).take (Tryz.prog.cellsOf 3)) = xs[1]? := by have := hg 1 _ rfl; exact this
    have k2 : DataW.trod enc Tryz.prog W 0 (fun _ => true) true n' 3 (([c0, c1, c2, c3, c4, c5, c6, c7, c8].drop 2).take (Tryz.prog.cellsOf 3)) = xs[2]? := by have := hg 2 _ rfl; exact this
    have k3 : DataW.trod enc Tryz.prog W 0 (fun _ => true) true n' 3 (([c0, c1, c2, c3, c4, c5, c6, c7, c8].drop 3).take (Tryz.prog.cellsOf 3)) = xs[3]? := by have := hg 3 _ rfl; exact this
    have k4 : DataW.trod enc Tryz.prog W 0 (fun _ => true) true n' 3 (([c0, c1, c2, c3, c4, c5, c6, c7, c8].drop 4).take (Tryz.prog.cellsOf 3)) = xs[4]? := by have := hg 4 _ rfl; exact this
    have k5 : DataW.trod enc Tryz.prog W 0 (fun _ => true) true n' 3 (([c0, c1, c2, c3, c4, c5, c6, c7, c8].drop 5).take (Tryz.prog.cellsOf 3)) = xs[5]? := by have := hg 5 _ rfl; exact this
    have k6 : DataW.trod enc Tryz.prog W 0 (fun _ => true) true n' 9 (([c0, c1, c2, c3, c4, c5, c6, c7, c8].drop 6).take (Tryz.prog.cellsOf 9)) = xs[6]? := by have := hg 6 _ rfl; exact this
    have k7 : DataW.trod enc Tryz.prog W 0 (fun _ => true) true n' 9 (([c0, c1, c2, c3, c4, c5, c6, c7, c8].drop 7).take (Tryz.prog.cellsOf 9)) = xs[7]? := by have := hg 7 _ rfl; exact this
    have k8 : DataW.trod enc Tryz.prog W 0 (fun _ => true) true n' 9 (([c0, c1, c2, c3, c4, c5, c6, c7, c8].drop 8).take (Tryz.prog.cellsOf 9)) = xs[8]? := by have := hg 8 _ rfl; exact this
    rw [czInt12] at k0 k1 k2 k3 k4 k5
    rw [czStr12] at k6 k7 k8
    match xs, hxl with
    | [y0, y1, y2, y3, y4, y5, y6, y7, y8], _ =>
      obtain ⟨z0, e0, _, i0⟩ := DataW.trod_int Tryz.underlying3 (show DataW.trod enc Tryz.prog W 0 (fun _ => true) true n' 3 [c0] = some y0 by simpa using k0)
      obtain ⟨z1, e1, _, i1⟩ := DataW.trod_int Tryz.underlying3 (show DataW.trod enc Tryz.prog W 0 (fun _ => true) true n' 3 [c1] = some y1 by simpa using k1)
      obtain ⟨z2, e2, _, i2⟩ := DataW.trod_int Tryz.underlying3 (show DataW.trod enc Tryz.prog W 0 (fun _ => true) true n' 3 [c2] = some y2 by simpa using k2)
      obtain ⟨z3, e3, _, i3⟩ := DataW.trod_int Tryz.underlying3 (show DataW.trod enc Tryz.prog W 0 (fun _ => true) true n' 3 [c3] = some y3 by simpa using k3)
      obtain ⟨z4, e4, _, i4⟩ := DataW.trod_int Tryz.underlying3 (show DataW.trod enc Tryz.prog W 0 (fun _ => true) true n' 3 [c4] = some y4 by simpa using k4)
      obtain ⟨z5, e5, _, i5⟩ := DataW.trod_int Tryz.underlying3 (show DataW.trod enc Tryz.prog W 0 (fun _ => true) true n' 3 [c5] = some y5 by simpa using k5)
      obtain ⟨z6, e6, _, m6⟩ := DataW.trod_string Tryz.underlying9 (show DataW.trod enc Tryz.prog W 0 (fun _ => true) true n' 9 [c6] = some y6 by simpa using k6)
      obtain ⟨z7, e7, _, m7⟩ := DataW.trod_string Tryz.underlying9 (show DataW.trod enc Tryz.prog W 0 (fun _ => true) true n' 9 [c7] = some y7 by simpa using k7)
      obtain ⟨z8, e8, _, m8⟩ := DataW.trod_string Tryz.underlying9 (show DataW.trod enc Tryz.prog W 0 (fun _ => true) true n' 9 [c8] = some y8 by simpa using k8)
      simp at e0 e1 e2 e3 e4 e5 e6 e7 e8
      subst e0 e1 e2 e3 e4 e5 e6 e7 e8
      refine ⟨⟨z0, z1, z2, z3, z4, z5, z6.data.toList, z7.data.toList, z8.data.toList⟩, ?_, inI_of i1, inI_of i2⟩
      rw [← bs_of, ← bs_of, ← bs_of]
set_option maxRecDepth 100000 in
/-- An argument that is a call. -/
theorem open_call {r : Reach} {b0 : Nat} {v : Value} {d : DataW H} {ps : List MemPlace} (hval : Value.okWide Tryz.prog W r b0 33 v) (hd : DataW.Trod enc Tryz.prog W 0 (fun _ => true) true 33 v d ps) :
    ∃ c : CallL, v = callV c ∧ InI c.fd ∧ InI c.fd2 := by
  obtain ⟨cs, rfl, hs⟩ := okWide_struct Tryz.underlying33 hval
  obtain ⟨fuel, hf⟩ := hd
  rw [show (Value.agg cs).cells.toList = cs.toList from rfl] at hf
  obtain ⟨c, h1, h2⟩ := open_call9 (by rw [Array.length_toList, hs, czCall12]) hf
  refine ⟨c, ?_, h2⟩
  have : cs = [Value.int .i64 c.kind, .int .i64 c.fd, .int .i64 c.fd2, .int .i64 c.n, .int .i64 c.mode, .int .i64 c.flags, .string (bs c.path), .string (bs c.path2), .string (bs c.data)].toArray := by rw [← h1]
  rw [this]
end
end Go.Proofs.YtpbmbpefophlfaaGreatDoor
