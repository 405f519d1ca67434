/-
  Jobs, plainly: when two of them are the same; what is drawn, pushed, popped.
-/
import Derived.Test.YtedcffkmfopalaaDoorJobMem
namespace Go.Proofs.YtedcffkmfopalaaDoor
open Go.RowKit Go.Shelf

theorem frame_ext {a b : FrameL} (h0 : a.fd = b.fd) (h1 : a.name = b.name) (h2 : a.names = b.names) : a = b := by
  cases a; cases b; simp_all
instance : DecidableEq FrameL := fun a b =>
  decidable_of_iff (a.fd = b.fd ∧ a.name = b.name ∧ a.names = b.names) ⟨fun ⟨h0, h1, h2⟩ => frame_ext h0 h1 h2, fun h => by subst h; simp⟩
theorem job_ext {a b : JobL} (g0 : a.names = b.names) (g1 : a.stack = b.stack) (g2 : a.draws = b.draws) (h0 : a.kind = b.kind) (h1 : a.p = b.p) (h2 : a.phase = b.phase) (h3 : a.fd = b.fd) (h4 : a.n = b.n) (h5 : a.mode = b.mode) (h6 : a.tries = b.tries)
    (h7 : a.pos = b.pos) (h8 : a.flags = b.flags) (h9 : a.path = b.path) (h10 : a.path2 = b.path2) (h11 : a.text = b.text) (h12 : a.done = b.done) (h13 : a.exit = b.exit) (h14 : a.out = b.out) (h15 : a.e = b.e) : a = b := by
  cases a; cases b
  simp only at g0 g1 g2 h0 h1 h2 h3 h4 h5 h6 h7 h8 h9 h10 h11 h12 h13 h14 h15
  subst g0 g1 g2 h0 h1 h2 h3 h4 h5 h6 h7 h8 h9 h10 h11 h12 h13 h14 h15
  rfl
instance : DecidableEq JobL := fun a b =>
  decidable_of_iff (a.names = b.names ∧ a.stack = b.stack ∧ a.draws = b.draws ∧ a.kind = b.kind ∧ a.p = b.p ∧ a.phase = b.phase ∧ a.fd = b.fd ∧ a.n = b.n ∧ a.mode = b.mode ∧ a.tries = b.tries ∧ a.pos = b.pos ∧ a.flags = b.flags
    ∧ a.path = b.path ∧ a.path2 = b.path2 ∧ a.text = b.text ∧ a.done = b.done ∧ a.exit = b.exit ∧ a.out = b.out ∧ a.e = b.e)
    ⟨fun ⟨g0, g1, g2, h0, h1, h2, h3, h4, h5, h6, h7, h8, h9, h10, h11, h12, h13, h14, h15⟩ => job_ext g0 g1 g2 h0 h1 h2 h3 h4 h5 h6 h7 h8 h9 h10 h11 h12 h13 h14 h15, fun h => by subst h; simp⟩
/-- What is drawn. -/
def drawJ (l : List Int) (pos : Nat) (n : Nat) : List Int := (List.range n).map fun i => l.getD (pos + i) 0
theorem drawJ_len (l : List Int) (pos n : Nat) : (drawJ l pos n).length = n := by simp [drawJ]
theorem drawJ_succ (l : List Int) (pos n : Nat) : drawJ l pos (n + 1) = drawJ l pos n ++ [l.getD (pos + n) 0] := by simp [drawJ, List.range_succ]
/-- Not too much to look at. -/
def plainJ (j : JobL) : Bool := decide (j.stack.length ≤ 20) && j.stack.all (fun f => decide (f.names.length ≤ 60)) && decide (j.names.length ≤ 120) && decide (j.draws.length ≤ 200) && decide (j.path.length ≤ 400) && decide (j.path2.length ≤ 400) && decide (j.text.length ≤ 400) && decide (0 ≤ j.pos) && decide (j.pos ≤ 1000000)
structure SmallJ (j : JobL) : Prop where
  st : j.stack.length ≤ 20
  fr : ∀ f ∈ j.stack, f.names.length ≤ 60
  nm : j.names.length ≤ 120
  dr : j.draws.length ≤ 200
  p0 : 0 ≤ j.pos
  p1 : j.pos ≤ 1000000
/-- .. but for where it is, and one frame more. -/
structure LightJ (j : JobL) : Prop where
  st : j.stack.length ≤ 30
  fr : ∀ f ∈ j.stack, f.names.length ≤ 60
  nm : j.names.length ≤ 120
  dr : j.draws.length ≤ 200
theorem SmallJ.light {j : JobL} (h : SmallJ j) : LightJ j := ⟨by have := h.st; omega, h.fr, h.nm, h.dr⟩
theorem small_J {j : JobL} (h : plainJ j = true) : SmallJ j := by
  unfold plainJ at h
  simp only [Bool.and_eq_true, decide_eq_true_iff, List.all_eq_true] at h
  obtain ⟨⟨⟨⟨⟨⟨⟨⟨h0, h1⟩, h2⟩, h3⟩, h4⟩, h5⟩, h6⟩, h7⟩, h8⟩ := h
  exact ⟨h0, h1, h2, h3, h7, h8⟩
end Go.Proofs.YtedcffkmfopalaaDoor
