/-
  What is shown, reckoned by the kernel: the call of shown tells true.
-/
import Derived.Test.YtedcffkmfopalaaDoorProg
import Derived.Test.YtedcffkmfopalaaDoorEngV
namespace Go.Proofs.YtedcffkmfopalaaDoor
open Go.RowKit Go.Eng
def ecf0 : Cfg := { nb := 0, xs := xsOf [], tis := [], mms := [] }
theorem exok0 : XOk Tryd.prog ecf0 := ⟨fun f k h => xsOf_ok (l := []) (fun p hp => by cases hp) h, fun m hm => (by cases hm), fun m hm => (by cases hm)⟩
set_option maxHeartbeats 0 in
theorem shown_ev : okOut (evCall Tryd.prog ecf0 10000 200 (.fn 8) [] (mkH []) 1) = true := by kernel_rfl
theorem shown_c (w : World) : Calls Tryd.prog 8 #[] w fun e w' => e = .returned (.bool true) ∧ Below w.heap.size w w' :=
  calls_true exok0 (by kernel_rfl) shown_ev (fun p hp => by cases hp) (ρ := fun _ => none) (fun g hg => absurd hg (Nat.not_lt_zero _)) (fun _ _ => rfl) (fun n b k h => by cases h) (fun p hp => by cases hp) (fun p hp => by cases hp)
end Go.Proofs.YtedcffkmfopalaaDoor
