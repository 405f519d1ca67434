import Derived.Test.YtinoogmaikhpjaaGreatDoorR46
import Derived.Deep.RegionHeld3
import Derived.Deep.DeepCutAuto
import Derived.Test.YtinoogmaikhpjaaGreatDoorR12
namespace Go.Proofs.YtinoogmaikhpjaaGreatDoor
open Go.RowKit Go.Shelf
attribute [local go_sem ↓] Go.wp_at_zero Go.wp_at_succ
theorem dskOf {l : List NodeL} (hr : RightP l) (hs : Small l) : Dsk l :=
  ⟨fun ms e => ⟨⟨by rw [← pl_len, e]; exact Nat.le_trans hs.1 (by decide), fun n hn => by rw [e] at hn; have := (hs.2 n hn).2; omega, by rw [e]; exact hr⟩, fun n hn => by rw [e] at hn; have := (hs.2 n hn).1; omega⟩, hs⟩
end Go.Proofs.YtinoogmaikhpjaaGreatDoor
namespace Go.Proofs.YtinoogmaikhpjaaGreatDoor
open Go.RowKit
def InI (n : Int) : Prop := -9223372036854775808 ≤ n ∧ n ≤ 9223372036854775807
def PosD (ds : List DescL) : Prop := ∀ d ∈ ds, InI d.pos
structure KSt (c : Nat) (k : KernL) : Prop where
  rig : RigK k
  siz : KrnS c k
  pos : PosD k.t.ds
theorem KSt.mono {c c' : Nat} {k : KernL} (h : KSt c k) (hc : c ≤ c') : KSt c' k := ⟨h.rig, h.siz.mono hc, h.pos⟩
theorem KSt.ok {c : Nat} {k : KernL} (h : KSt c k) (hc : c ≤ 120) : KrnOk k :=
  have sr := small_right h.rig h.siz
  ⟨h.rig, h.siz.mono hc, dskOf h.rig.rightP ⟨Nat.le_trans sr.1 (by decide), fun n hn => ⟨Nat.le_trans (sr.2 n hn).1 (by decide), by have := (sr.2 n hn).2; omega⟩⟩⟩
end Go.Proofs.YtinoogmaikhpjaaGreatDoor
