import Derived.Test.YtmiekcdkamgknaaGreatDoorR29
import Derived.Test.YtmiekcdkamgknaaGreatDoorR27
import Derived.Test.YtmiekcdkamgknaaGreatDoorR24
namespace Go.Proofs.YtmiekcdkamgknaaGreatDoor
open Go.RowKit Go.Eng
set_option maxHeartbeats 0 in
theorem shown_ev:okOut (evCall Tryz.prog ecf 10000 200 (.fn 6) [] (mkH [(0, .ro [eerrV] false)]) (15+1))=true:=by kernel_rfl
theorem shown_c (X:Nat→Prop)(S:Nat→Addr)(w:World)(_hX:Old X w)(hE:EnvX S X w):Calls Tryz.prog 6 #[] w fun e w'=>e = .returned (.bool true)∧Below w.heap.size w w' :=
 calls_true_one (fun _=>exok) efollow shown_ev (Nat.le_refl _) (by decide) (by decide) (by kernel_rfl) hE.1.sent.err
end Go.Proofs.YtmiekcdkamgknaaGreatDoor
