/-
  Jobs in memory: nineteen cells, three of them slices; frames, three cells each, the last a slice of texts.
-/
import Derived.Test.YtedcffkmfopalaaDoorMem
namespace Go.Proofs.YtedcffkmfopalaaDoor
open Go.RowKit Go.Shelf

structure FrameL where
  fd : Int
  name : Str
  names : List Str
structure JobL where
  kind : Int
  p : Int
  phase : Int
  fd : Int
  n : Int
  mode : Int
  tries : Int
  pos : Int
  flags : Int
  path : Str
  path2 : Str
  text : Str
  names : List Str
  stack : List FrameL
  draws : List Int
  done : Bool
  exit : Int
  out : Str
  e : Int
/-- A frame and where its names lie. -/
abbrev FrameM := FrameL × Value
abbrev fval (f : FrameL) (v : Value) : Value := .agg #[.int .i64 f.fd, .string (bs f.name), v]
def fcells (m : FrameM) : List Value := [.int .i64 m.1.fd, .string (bs m.1.name), m.2]
def cellsF (ms : List FrameM) : List Value := ms.flatMap fcells
theorem cellsF_len (ms : List FrameM) : (cellsF ms).length = ms.length * 3 := by
  induction ms with
  | nil => rfl
  | cons m ms ih =>
    have : cellsF (m :: ms) = fcells m ++ cellsF ms := by simp [cellsF]
    rw [this, List.length_append, ih, List.length_cons]
    show 3 + ms.length * 3 = _
    omega
theorem cellsF_app (a b : List FrameM) : cellsF (a ++ b) = cellsF a ++ cellsF b := by simp [cellsF]
theorem cellsF_at (ms : List FrameM) (k j : Nat) (hk : k < ms.length) (hj : j < 3) : (cellsF ms)[k * 3 + j]? = (fcells ms[k])[j]? := by
  induction ms generalizing k with
  | nil => simp at hk
  | cons m ms ih =>
    have e : cellsF (m :: ms) = fcells m ++ cellsF ms := by simp [cellsF]
    cases k with
    | zero =>
      rw [e, Nat.zero_mul, Nat.zero_add, List.getElem?_append_left (by show j < 3; omega)]
      rfl
    | succ k =>
      rw [e, List.getElem?_append_right (by show 3 ≤ _; omega)]
      have : (k + 1) * 3 + j - (fcells m).length = k * 3 + j := by show (k + 1) * 3 + j - 3 = _; omega
      rw [this]
      exact ih k (by simpa using hk)
def RdFm (B : Nat) (m : FrameM) (W : World) : Prop := Rd B 1 m.2 m.1.names.length (strs m.1.names) W
/-- A slice of frames, read: the frames, and the names of each. -/
def RdFs (B : Nat) (v : Value) (ms : List FrameM) (W : World) : Prop := Rd B 3 v ms.length (cellsF ms) W ∧ ∀ m ∈ ms, RdFm B m W
theorem RdFs.keep {v : Value} {ms : List FrameM} {W W' : World} (h : RdFs W.heap.size v ms W) (hb : Below W.heap.size W W') : RdFs W'.heap.size v ms W' :=
  ⟨(h.1.below hb).mono hb.size, fun m hm => (Rd.below (h.2 m hm) hb).mono hb.size⟩
def pf (ms : List FrameM) : List FrameL := ms.map (·.1)
theorem pf_len (ms : List FrameM) : (pf ms).length = ms.length := by simp [pf]
theorem pf_at (ms : List FrameM) (k : Nat) (h : k < ms.length) : (pf ms)[k]'(by rw [pf_len]; exact h) = ms[k].1 := by simp [pf]
def GivesF (l : List FrameL) (v : Value) (W : World) : Prop := ∃ ms, pf ms = l ∧ RdFs W.heap.size v ms W
theorem GivesF.keep {l : List FrameL} {v : Value} {W W' : World} (h : GivesF l v W) (hb : Below W.heap.size W W') : GivesF l v W' := by
  obtain ⟨ms, h1, h2⟩ := h
  exact ⟨ms, h1, h2.keep hb⟩
theorem GivesF.form {l : List FrameL} {v : Value} {W : World} (h : GivesF l v W) : ∃ ao cap, v = .slice ao l.length cap ∧ l.length ≤ cap ∧ cap ≤ maxLen := by
  obtain ⟨ms, rfl, h2⟩ := h
  rw [pf_len]
  exact h2.1.form
/-- Frame k, read. -/
theorem frame_at {l : List FrameL} {ao : Option Addr} {n cap : Nat} {W : World} (h : GivesF l (.slice ao n cap) W) (k : Nat) (hk : k < l.length) :
    ∃ (b off : Nat) (aon : Option Addr) (capn : Nat), ao = some ⟨b, off, none⟩ ∧ b < W.heap.size ∧ Rd W.heap.size 1 (.slice aon l[k].names.length capn) l[k].names.length (strs l[k].names) W
      ∧ W.cell? ⟨b, off + k * 3, none⟩ = some (.int .i64 l[k].fd) ∧ W.cell? ⟨b, off + k * 3 + 1, none⟩ = some (.string (bs l[k].name)) ∧ W.cell? ⟨b, off + k * 3 + 2, none⟩ = some (.slice aon l[k].names.length capn) := by
  obtain ⟨ms, rfl, h1, h2⟩ := h
  have hk' : k < ms.length := by rwa [pf_len] at hk
  obtain ⟨b, off, cap', e, _, _, hb, _, hc⟩ := h1.at (by omega)
  injection e with e1 _ e2
  subst e1
  have hm := h2 ms[k] (List.getElem_mem hk')
  obtain ⟨aon, capn, ev, _, _⟩ := Rd.form hm
  have ha := pf_at ms k hk'
  rw [ha]
  have hm' := hm
  unfold RdFm at hm'
  rw [ev] at hm'
  refine ⟨b, off, aon, capn, rfl, hb, hm', ?_, ?_, ?_⟩
  · exact hc _ _ (cellsF_at ms k 0 hk' (by decide))
  · have := hc (k * 3 + 1) _ (cellsF_at ms k 1 hk' (by decide))
    rwa [← Nat.add_assoc] at this
  · have := hc (k * 3 + 2) ms[k].2 (cellsF_at ms k 2 hk' (by decide))
    rw [← Nat.add_assoc, ev] at this
    exact this
def intsJ (L : List Int) : List Value := L.map fun x => .int .i64 x
theorem intsJ_len (L : List Int) : (intsJ L).length = L.length := List.length_map ..
theorem intsJ_at (L : List Int) (k : Nat) (h : k < L.length) : (intsJ L)[k]? = some (.int .i64 L[k]) := by simp [intsJ, h]
/-- A job's cells. -/
abbrev jcells (j : JobL) (vn vs vd : Value) : List Value := [.int .i64 j.kind, .int .i64 j.p, .int .i64 j.phase, .int .i64 j.fd, .int .i64 j.n, .int .i64 j.mode, .int .i64 j.tries, .int .i64 j.pos, .int .i64 j.flags,
  .string (bs j.path), .string (bs j.path2), .string (bs j.text), vn, vs, vd, .bool j.done, .int .i64 j.exit, .string (bs j.out), .int .i64 j.e]
abbrev jval (j : JobL) (vn vs vd : Value) : Value := .agg #[.int .i64 j.kind, .int .i64 j.p, .int .i64 j.phase, .int .i64 j.fd, .int .i64 j.n, .int .i64 j.mode, .int .i64 j.tries, .int .i64 j.pos, .int .i64 j.flags,
  .string (bs j.path), .string (bs j.path2), .string (bs j.text), vn, vs, vd, .bool j.done, .int .i64 j.exit, .string (bs j.out), .int .i64 j.e]
/-- What of a job lies elsewhere. -/
structure GivesJ (j : JobL) (vn vs vd : Value) (W : World) : Prop where
  nm : Rd W.heap.size 1 vn j.names.length (strs j.names) W
  st : GivesF j.stack vs W
  dr : Rd W.heap.size 1 vd j.draws.length (intsJ j.draws) W
theorem GivesJ.keep {j : JobL} {vn vs vd : Value} {W W' : World} (h : GivesJ j vn vs vd W) (hb : Below W.heap.size W W') : GivesJ j vn vs vd W' :=
  ⟨(h.nm.below hb).mono hb.size, h.st.keep hb, (h.dr.below hb).mono hb.size⟩
end Go.Proofs.YtedcffkmfopalaaDoor
