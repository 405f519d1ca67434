import Derived.Test.YtinoogmaikhpjaaGreatDoorR27
import Derived.Test.YtinoogmaikhpjaaGreatDoorR25
import Derived.Deep.RegionHeld3
import Derived.Deep.DeepCutAuto
namespace Go.Proofs.YtinoogmaikhpjaaGreatDoor
def SeenN (m n : NodeL) : Prop := m.kind = n.kind ∧ m.mode = n.mode ∧ m.owner = n.owner ∧ m.up = n.up ∧ m.names = n.names ∧ (n.kind = 3 → m.data = n.data)
theorem SeenN.rfl' (n : NodeL) : SeenN n n := ⟨rfl, rfl, rfl, rfl, rfl, fun _ => rfl⟩
def SameW (l l' : List NodeL) : Prop := ∀ j : Nat, SeenN (nd l' j) (nd l j)
theorem SameW.rfl' (l : List NodeL) : SameW l l := fun _ => SeenN.rfl' _
theorem SameW.trans {a b c : List NodeL} (h1 : SameW a b) (h2 : SameW b c) : SameW a c := fun j => by
  obtain ⟨a1, a2, a3, a4, a5, a6⟩ := h1 j
  obtain ⟨b1, b2, b3, b4, b5, b6⟩ := h2 j
  exact ⟨b1.trans a1, b2.trans a2, b3.trans a3, b4.trans a4, b5.trans a5, fun h => (b6 (a1.trans h)).trans (a6 h)⟩
theorem nodeL_cases (l : List NodeL) (i : Int) : (∃ j : Nat, i = j ∧ (nd l j).kind ≠ 0 ∧ nodeL l i = nd l j) ∨ (gotB l i = false ∧ nodeL l i = zeroN) := by
  cases h : gotB l i with
  | true =>
    obtain ⟨j, rfl, _, hk⟩ := got_nat h
    exact .inl ⟨j, rfl, hk, nodeL_nd hk⟩
  | false => exact .inr ⟨rfl, by unfold nodeL; rw [h]; rfl⟩
theorem SameW.got {l l' : List NodeL} (h : SameW l l') (i : Int) : gotB l' i = gotB l i := by
  rw [Bool.eq_iff_iff]
  constructor
  · intro hg
    obtain ⟨j, rfl, _, hk⟩ := got_nat hg
    rw [got_nd, ← (h j).1]; exact hk
  · intro hg
    obtain ⟨j, rfl, _, hk⟩ := got_nat hg
    rw [got_nd, (h j).1]; exact hk
theorem SameW.node {l l' : List NodeL} (h : SameW l l') (i : Int) : SeenN (nodeL l' i) (nodeL l i) := by
  rcases nodeL_cases l i with ⟨j, rfl, hk, e⟩ | ⟨hg, e⟩
  · rw [e, nodeL_nd (by rw [(h j).1]; exact hk)]
    exact h j
  · rw [e]
    unfold nodeL
    rw [h.got, hg]
    exact SeenN.rfl' _
theorem SameW.dir {l l' : List NodeL} (h : SameW l l') (i : Int) : dirE l' i = dirE l i := by
  unfold dirE; rw [h.got, (h.node i).1]
theorem opened_seen {l : List NodeL} {i : Nat} (hik : (nd l i).kind ≠ 0) {b : Int} (hb : i = 0 ∨ 0 < (nd l i).links ∨ 0 < (nd l i).opn + b) : SameW l (openedL l (i : Int) b) := fun j => by
  rw [opened_nd hik]
  split
  · rename_i e
    subst e
    unfold atN
    rw [if_neg (by omega)]
    exact ⟨rfl, rfl, rfl, rfl, rfl, fun _ => rfl⟩
  · exact SeenN.rfl' _
end Go.Proofs.YtinoogmaikhpjaaGreatDoor
namespace Go.Proofs.YtinoogmaikhpjaaGreatDoor
open Go.RowKit Go.Shelf
attribute [local go_sem ↓] Go.wp_at_zero Go.wp_at_succ
structure KrnOk (k : KernL) : Prop where
  rig : RigK k
  siz : KrnS 120 k
  dsk : Dsk k.l
theorem KrnOk.len {k : KernL} (h : KrnOk k) : k.l.length ≤ 10000 := Nat.le_trans h.dsk.sm.1 (by decide)
theorem KrnOk.size {k : KernL} (h : KrnOk k) : SizeT k.t := by
  have h8 := h.rig.eight
  have hd := h.siz.2.2.2
  exact ⟨by omega, by omega, fun r hr => by have := (h.rig.tab.1 r hr).1; omega⟩
theorem KrnOk.opn {k : KernL} (h : KrnOk k) (i b : Int) (hb : -1 ≤ b ∧ b ≤ 1) : IntKind.i64.wrap ((nodeL k.l i).opn + b) = (nodeL k.l i).opn + b := by
  have hle : 0 ≤ (nodeL k.l i).opn ∧ (nodeL k.l i).opn ≤ 1000 := by
    rcases nodeL_cases k.l i with ⟨j, rfl, hk, e⟩ | ⟨_, e⟩
    · rw [e, h.rig.opn j hk]
      have h1 : opensD k.t.ds (j : Int) ≤ k.t.ds.length := List.countP_le_length
      have h2 : opensP k.ps (j : Int) ≤ k.ps.length := List.countP_le_length
      have h3 := h.siz.2.2.2
      have h4 := h.rig.procs
      unfold opensN
      omega
    · rw [e]; exact ⟨Int.le_refl 0, by decide⟩
  exact Go.IntWalk.i64_in _ (by omega)
end Go.Proofs.YtinoogmaikhpjaaGreatDoor
namespace Go.Proofs.YtinoogmaikhpjaaGreatDoor
open Go.RowKit Go.Shelf
attribute [local go_sem ↓] Go.wp_at_zero Go.wp_at_succ
section
variable {ps : List ProcL} {X : Nat → Prop} {W : World} {b off cp : Nat}
theorem PsX.c0 (h : PsX ps (.slice (some ⟨b, off, none⟩) ps.length cp) X W) (a : Nat) (ha : a < ps.length) : W.cell? ⟨b, off + a * 4, none⟩ = some (.int .i64 (ps[a]).who) := by
  obtain ⟨b', o', e, c0, _⟩ := h.proc a ha
  injection e with e; injection e with e1 e2 _; subst e1; subst e2; exact c0
theorem PsX.c1 (h : PsX ps (.slice (some ⟨b, off, none⟩) ps.length cp) X W) (a : Nat) (ha : a < ps.length) : W.cell? ⟨b, off + a * 4 + 1, none⟩ = some (.int .i64 (ps[a]).umask) := by
  obtain ⟨b', o', e, _, c1, _⟩ := h.proc a ha
  injection e with e; injection e with e1 e2 _; subst e1; subst e2; exact c1
theorem PsX.c2 (h : PsX ps (.slice (some ⟨b, off, none⟩) ps.length cp) X W) (a : Nat) (ha : a < ps.length) : W.cell? ⟨b, off + a * 4 + 2, none⟩ = some (.int .i64 (ps[a]).cwd) := by
  obtain ⟨b', o', e, _, _, c2, _⟩ := h.proc a ha
  injection e with e; injection e with e1 e2 _; subst e1; subst e2; exact c2
end
end Go.Proofs.YtinoogmaikhpjaaGreatDoor
namespace Go.Proofs.YtinoogmaikhpjaaGreatDoor
open Go.RowKit Go.Shelf
attribute [local go_sem ↓] Go.wp_at_zero Go.wp_at_succ
theorem infoProcR : (Tryz.prog.info? 66).map (fun i => (i.zero, i.size, i.bytes)) = some (some (.agg #[.int .i64 0, .int .i64 0, .int .i64 0, .bool false]), 4, 32) := by kernel_rfl
theorem Sf.rdx {X : Nat → Prop} {w W : World} {B : List Bl} {G : List Thing} (h : Sf X w B G W) {e : TypeId} {s n : Nat} {v : Value} {xs : List Value} (ho : W.ownsRow w.heap.size e s v n xs) (hne : (B.map (·.2.2)).contains e = false) : RdX s v n xs (Xo X (B.map (·.1))) W :=
  ⟨Rd.own ho (Nat.le_refl _), fun g hg => by
    rcases hg with hg | hg
    · exact own_far ho (h.old g hg)
    · obtain ⟨x, hx, rfl⟩ := List.mem_map.1 hg
      intro a n' c ev _ hb
      exact h.apart ho hne a.block (by rw [ev]; rfl) x hx hb.symm⟩
end Go.Proofs.YtinoogmaikhpjaaGreatDoor
