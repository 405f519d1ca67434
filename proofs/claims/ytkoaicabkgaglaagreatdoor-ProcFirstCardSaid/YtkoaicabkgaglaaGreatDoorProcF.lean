/-
  A process that comes: what is told, and that a kernel that is right stays so; a new kernel is right.
-/
import Derived.Test.YtkoaicabkgaglaaGreatDoorR22
import Derived.Test.YtkoaicabkgaglaaGreatDoorR26
import Derived.Test.YtkoaicabkgaglaaGreatDoorR17
namespace Go.Proofs.YtkoaicabkgaglaaGreatDoor

def newP (who um i : Int) : ProcL := ⟨who, um, i, true⟩
/-- What a kernel is, once somebody came to directory i. -/
def comeK (k : KernL) (who um i : Int) : KernL := ⟨setL k.l i (opnN (nodeL k.l i) 1), k.most, k.room, k.t, k.ps ++ [newP who um i]⟩
theorem come_set {l : List NodeL} {i : Nat} (hik : (nd l i).kind ≠ 0) (ho : 0 ≤ (nd l i).opn) : setL l (i : Int) (opnN (nodeL l (i : Int)) 1) = openedL l (i : Int) 1 := by
  rw [opened_eq hik, setL_nat (nd_kind hik), nodeL_nd hik]
  unfold atN
  rw [if_neg (by omega)]
theorem live_left {ps : List ProcL} (x : ProcL) {q : Nat} (hq : q < ps.length) : liveB (ps ++ [x]) (q : Int) = liveB ps (q : Int) ∧ procL (ps ++ [x]) (q : Int) = procL ps (q : Int) := by
  obtain ⟨a1, a2⟩ := live_at hq
  obtain ⟨b1, b2⟩ := live_at (ps := ps ++ [x]) (a := q) (by rw [List.length_append]; omega)
  rw [a1, a2, b1, b2, List.getElem_append_left hq]
  exact ⟨rfl, rfl⟩
theorem live_last (ps : List ProcL) (x : ProcL) : liveB (ps ++ [x]) (ps.length : Int) = x.live ∧ procL (ps ++ [x]) (ps.length : Int) = x := by
  obtain ⟨b1, b2⟩ := live_at (ps := ps ++ [x]) (a := ps.length) (by rw [List.length_append]; exact Nat.lt_succ_self _)
  have e : (ps ++ [x])[ps.length]'(by rw [List.length_append]; exact Nat.lt_succ_self _) = x := by simp
  rw [b1, b2, e]
  exact ⟨rfl, rfl⟩
theorem live_off {ps : List ProcL} {q : Nat} (hq : ps.length ≤ q) : liveB ps (q : Int) = false := by
  unfold liveB
  rw [decide_eq_false (show ¬ (q : Int) < (ps.length : Int) by omega)]
  simp
theorem opensP_come (ps : List ProcL) (who um i j : Int) : opensP (ps ++ [newP who um i]) j = opensP ps j + if j = i then 1 else 0 := by
  unfold opensP
  rw [List.countP_append]
  by_cases e : j = i
  · subst e
    simp [newP]
  · rw [if_neg e]
    simp [newP, Ne.symm e]
theorem right_come {k : KernL} (h : RigK k) (h8 : k.ps.length < 8) {i : Nat} (hi : (nd k.l i).kind = 2) {who um : Int} (h0 : 0 ≤ um) (h1 : um ≤ 63) : RigK (comeK k who um (i : Int)) := by
  have hik : (nd k.l i).kind ≠ 0 := by rw [hi]; decide
  have ho := h.opn i hik
  have hl : (comeK k who um (i : Int)).l = openedL k.l (i : Int) 1 := come_set hik (by omega)
  obtain ⟨w, hk⟩ := h.w.move (g := opensN (comeK k who um (i : Int))) hik (b := 1) (fun j => by
    have := opensP_come k.ps who um (i : Int) j
    unfold opensN
    show ((opensD k.t.ds j + opensP (k.ps ++ [newP who um (i : Int)]) j : Nat) : Int) = _
    by_cases e : j = (i : Int)
    · rw [if_pos e] at this ⊢; omega
    · rw [if_neg e] at this ⊢; omega)
  rw [← hl] at w hk
  refine rig_w w h.tab h.eight (by show (k.ps ++ [newP who um (i : Int)]).length ≤ 8; rw [List.length_append]; exact h8) (fun p hp hq => ?_) (fun p hq => ?_)
  · rcases Nat.lt_trichotomy p k.ps.length with hlt | rfl | hgt
    · exact h.idle p hp ((live_left _ hlt).1.symm.trans hq)
    · have := (live_last k.ps (newP who um (i : Int))).1.symm.trans hq
      cases this
    · exact h.idle p hp (live_off (by omega))
  · show (nodeL (comeK k who um (i : Int)).l (procL (k.ps ++ [newP who um (i : Int)]) p).cwd).kind = 2 ∧ 0 ≤ (procL (k.ps ++ [newP who um (i : Int)]) p).umask ∧ (procL (k.ps ++ [newP who um (i : Int)]) p).umask ≤ 63
    have hq' : liveB (k.ps ++ [newP who um (i : Int)]) (p : Int) = true := hq
    rcases Nat.lt_trichotomy p k.ps.length with hlt | rfl | hgt
    · obtain ⟨e1, e2⟩ := live_left (newP who um (i : Int)) hlt
      rw [e1] at hq'
      obtain ⟨c1, c2, c3⟩ := h.cwd p hq'
      obtain ⟨o, ho, ho2, _⟩ := h.cwd_open hq'
      rw [e2]
      refine ⟨?_, c2, c3⟩
      rw [ho] at c1 ⊢
      have hok := hk o (by rw [ho2]; decide) (by
        have := live_pos (k := k) hq' (j := (o : Int)) ho
        have h2 := opensP_come k.ps who um (i : Int) (o : Int)
        unfold opensN
        show 0 < opensD k.t.ds _ + opensP (k.ps ++ [newP who um (i : Int)]) _
        omega)
      rw [nodeL_nd (by rw [hok, ho2]; decide), hok, ho2]
    · rw [(live_last k.ps (newP who um (i : Int))).2]
      have hok := hk i hik (by
        have h2 := opensP_come k.ps who um (i : Int) (i : Int)
        rw [if_pos rfl] at h2
        unfold opensN
        show 0 < opensD k.t.ds _ + opensP (k.ps ++ [newP who um (i : Int)]) _
        omega)
      refine ⟨?_, h0, h1⟩
      show (nodeL (comeK k who um (i : Int)).l (i : Int)).kind = 2
      rw [nodeL_nd (by rw [hok]; exact hik), hok]
      exact hi
    · rw [live_off (ps := k.ps ++ [newP who um (i : Int)]) (by rw [List.length_append]; exact hgt)] at hq'
      cases hq'
theorem size_come {c : Nat} {k : KernL} (h : KrnS c k) (who um i : Int) : KrnS c (comeK k who um i) :=
  ⟨h.1, h.2.1, h.2.2.1.set (n := opnN (nodeL k.l i) 1) (h.2.2.1.node i) i, h.2.2.2⟩
/-- A new kernel. -/
def firstN (mode : Int) : NodeL := ⟨2, mode, 0, 1, 0, 0, [], []⟩
def firstK (most room mode : Int) : KernL := ⟨[firstN mode], most, room, newT 8, []⟩
theorem first_right {most room mode : Int} (h1 : 1 ≤ most) (h2 : 0 ≤ room) (h3 : 0 ≤ mode) (h4 : mode ≤ 63) : rightR [firstN mode] most room = true := by
  rw [rightR_eq]
  have hp : plainB (firstN mode) = true := by
    unfold plainB
    rw [show (firstN mode).kind = 2 from rfl, show (firstN mode).mode = mode from rfl, show (firstN mode).opn = 0 from rfl, decide_eq_true h3, decide_eq_true h4]
    rfl
  have h5 : (List.range [firstN mode].length).all (fun i => okR [firstN mode] i (atI [firstN mode] i)) = true := by
    show (List.range 1).all (fun i => okR [firstN mode] i (atI [firstN mode] i)) = true
    rw [List.all_eq_true]
    intro i hi
    obtain rfl : i = 0 := by have := List.mem_range.1 hi; omega
    show okR [firstN mode] 0 (firstN mode) = true
    unfold okR
    rw [if_neg (show ¬ (firstN mode).kind = 0 from by show ¬ (2 : Int) = 0; decide), hp]
    have hs : decide (SortedP (firstN mode).names) = true := decide_eq_true (by show SortedP []; exact ⟨fun e he => (by cases he), List.Pairwise.nil⟩)
    rw [hs]
    rfl
  rw [h5, Bool.and_true]
  unfold headR
  have e1 : bytesL [firstN mode] = 0 := by rfl
  have e2 : (atI [firstN mode] 0).kind = 2 := rfl
  rw [e1, e2]
  simp
  omega
theorem first_rig {most room mode : Int} (h1 : 1 ≤ most) (h2 : 0 ≤ room) (h3 : 0 ≤ mode) (h4 : mode ≤ 63) : RigK (firstK most room mode) := by
  refine (right_K _).1 ?_
  unfold rightK
  rw [show rightR (firstK most room mode).l (firstK most room mode).most (firstK most room mode).room = true from first_right h1 h2 h3 h4]
  rfl
theorem first_size {most room mode : Int} (h1 : most ≤ 100) (h2 : room ≤ 1000) : KrnS 20 (firstK most room mode) :=
  ⟨h1, h2, fun n hn => by rw [show (firstK most room mode).l = [firstN mode] from rfl, List.mem_singleton] at hn; subst hn; exact Nat.zero_le _, Nat.zero_le _⟩
/-- What the law goes through: kernels that are right, and small, whose node 0 is a directory, and that have i processes. -/
structure ComeK (i : Nat) (k : KernL) : Prop where
  rig : RigK k
  siz : KrnS 20 k
  dir : (nd k.l 0).kind = 2
  len : k.ps.length = i
theorem first_come {most room mode : Int} (h1 : 1 ≤ most) (h5 : most ≤ 100) (h2 : 0 ≤ room) (h6 : room ≤ 1000) (h3 : 0 ≤ mode) (h4 : mode ≤ 63) : ComeK 0 (firstK most room mode) :=
  ⟨first_rig h1 h2 h3 h4, first_size h5 h6, rfl, rfl⟩
theorem ComeK.next {i : Nat} {k : KernL} (h : ComeK i k) (hi : i < 8) {who um : Int} (h0 : 0 ≤ um) (h1 : um ≤ 63) : ComeK (i + 1) (comeK k who um 0) := by
  have hl := h.len
  have hr := right_come (who := who) h.rig (by omega) (i := 0) h.dir h0 h1
  have hik : (nd k.l 0).kind ≠ 0 := by rw [h.dir]; decide
  have ho := h.rig.opn 0 hik
  refine ⟨hr, size_come h.siz _ _ _, ?_, by show (k.ps ++ [newP who um 0]).length = _; rw [List.length_append, hl]; rfl⟩
  have hs := come_set (l := k.l) (i := 0) hik (by omega)
  show (nd (setL k.l ((0 : Nat) : Int) (opnN (nodeL k.l ((0 : Nat) : Int)) 1)) 0).kind = 2
  rw [hs, opened_nd hik, if_pos rfl, (atN_kind (by omega)).1]
  exact h.dir
end Go.Proofs.YtkoaicabkgaglaaGreatDoor
