/-
  The example of the statements on ways, plainly.
-/
import Derived.Test.YtckbhkchnhhecaaDoorWalkPlain2
namespace Go.Proofs.YtckbhkchnhhecaaDoor

def exN0 : NodeL := ⟨2, 63, 0, 1, 0, 0, [], [([97], 1), ([98], 2)]⟩
def exN1 : NodeL := ⟨2, 63, 0, 1, 0, 0, [], []⟩
def exN2 : NodeL := ⟨3, 63, 0, 1, 0, 0, [97, 47, 46, 46, 47, 98], []⟩
def exL : List NodeL := [exN0, exN1, exN2]
theorem exL_right : rightR exL 9 9 = true := by decide +kernel
theorem exR : RightP exL := ⟨9, 9, exL_right⟩
theorem ex_d0 : dirE exL 0 = 0 := by decide +kernel
theorem ex_d1 : dirE exL 1 = 0 := by decide +kernel
theorem ex_m0 : mayAt exL 1 0 = true := by decide +kernel
theorem ex_m1 : mayAt exL 1 1 = true := by decide +kernel
theorem ex_0a : lookL exL 0 [97] = 1 := by decide +kernel
theorem ex_0b : lookL exL 0 [98] = 2 := by decide +kernel
theorem ex_1x : lookL exL 1 [120] = -1 := by decide +kernel
theorem ex_1u : lookL exL 1 [46, 46] = 0 := by decide +kernel
theorem ex_1s : lookL exL 1 [46] = 1 := by decide +kernel
theorem ex_k0 : (nodeL exL 0).kind = 2 := by decide +kernel
theorem ex_k1 : (nodeL exL 1).kind = 2 := by decide +kernel
theorem ex_k2 : (nodeL exL 2).kind = 3 := by decide +kernel
theorem ex_t2 : (nodeL exL 2).data = [97, 47, 46, 46, 47, 98] := by decide +kernel
section
variable {f s : Bool} {r : List Str} {h : Nat}
theorem ex_on0a (hr : r ≠ []) : goW exL 1 f s 0 ([97] :: r) h = goW exL 1 f s 1 r h := by
  rw [go_on ex_d0 ex_m0 (by rw [ex_0a]; decide) (by rw [ex_0a, ex_k1]; decide) hr, ex_0a]
theorem ex_on1u (hr : r ≠ []) : goW exL 1 f s 1 ([46, 46] :: r) h = goW exL 1 f s 0 r h := by
  rw [go_on ex_d1 ex_m1 (by rw [ex_1u]; decide) (by rw [ex_1u, ex_k0]; decide) hr, ex_1u]
theorem ex_on1s (hr : r ≠ []) : goW exL 1 f s 1 ([46] :: r) h = goW exL 1 f s 1 r h := by
  rw [go_on ex_d1 ex_m1 (by rw [ex_1s]; decide) (by rw [ex_1s, ex_k1]; decide) hr, ex_1s]
end
theorem ex_walk {who fr : Int} {p : Str} {f : Bool} {q : Str} {ps : List Str} (hc : checkE p = 0) (hp : parts p = q :: ps) : walkL exL who fr p f = goW exL who f (Lib.hasSuffix p [47]) (firstAt fr p) (q :: ps) 0 := by
  unfold walkL
  rw [if_neg (by simp [hc]), hp, if_neg (by simp)]
theorem ex_1 : walkL exL 1 0 [47, 97, 47, 120] false = (⟨1, [120], -1, false⟩, 0) := by
  rw [ex_walk (q := [97]) (ps := [[120]]) (by decide +kernel) (by decide +kernel)]
  rw [show firstAt 0 [47, 97, 47, 120] = 0 from by decide, show Lib.hasSuffix [47, 97, 47, 120] [47] = false from by decide]
  rw [ex_on0a (by simp), go_none1 ex_d1 ex_m1 (by rw [ex_1x]; decide) rfl]
theorem ex_2 : walkL exL 1 1 [46, 46, 47, 98] false = (⟨0, [98], 2, false⟩, 0) := by
  rw [ex_walk (q := [46, 46]) (ps := [[98]]) (by decide +kernel) (by decide +kernel)]
  rw [show firstAt 1 [46, 46, 47, 98] = 1 from by decide, show Lib.hasSuffix [46, 46, 47, 98] [47] = false from by decide]
  rw [ex_on1u (by simp), go_spot ex_d0 ex_m0 (by rw [ex_0b]; decide) (by simp) rfl (by simp), ex_0b]
theorem ex_round : ∀ (k h : Nat), h + k = 8 → goW exL 1 true false 0 [[98]] h = (zeroS, 8) := by
  intro k
  induction k with
  | zero =>
    intro h hk
    exact go_loop ex_d0 ex_m0 (by rw [ex_0b]; decide) (by rw [ex_0b, ex_k2]) (.inr (.inl rfl)) (by omega)
  | succ k ih =>
    intro h hk
    rw [go_link ex_d0 ex_m0 (by rw [ex_0b]; decide) (by rw [ex_0b, ex_k2]) (.inr (.inl rfl)) (by omega) (by rw [ex_0b, ex_t2]; decide +kernel), ex_0b, ex_t2]
    rw [show firstAt 0 [97, 47, 46, 46, 47, 98] = 0 from by decide, show parts [97, 47, 46, 46, 47, 98] ++ [] = [[97], [46, 46], [98]] from by decide +kernel]
    rw [ex_on0a (by simp), ex_on1u (by simp)]
    exact ih (h + 1) (by omega)
theorem ex_3 : walkL exL 1 0 [98] true = (zeroS, 8) := by
  rw [ex_walk (q := [98]) (ps := []) (by decide +kernel) (by decide +kernel)]
  exact ex_round 8 0 rfl
theorem ex_4 : walkL exL 1 0 [97, 47, 120, 47, 121] true = (zeroS, 2) := by
  rw [ex_walk (q := [97]) (ps := [[120], [121]]) (by decide +kernel) (by decide +kernel)]
  rw [show firstAt 0 [97, 47, 120, 47, 121] = 0 from by decide]
  rw [ex_on0a (by simp), go_none2 ex_d1 ex_m1 (by rw [ex_1x]; decide) (by simp)]
theorem ex_5 : walkL exL 1 0 [97, 47, 46, 47, 46, 46] true = (⟨1, [46, 46], 0, false⟩, 0) := by
  rw [ex_walk (q := [97]) (ps := [[46], [46, 46]]) (by decide +kernel) (by decide +kernel)]
  rw [show firstAt 0 [97, 47, 46, 47, 46, 46] = 0 from by decide, show Lib.hasSuffix [97, 47, 46, 47, 46, 46] [47] = false from by decide]
  rw [ex_on0a (by simp), ex_on1s (by simp), go_spot ex_d1 ex_m1 (by rw [ex_1u]; decide) (by rw [ex_1u, ex_k0]; simp) rfl (by simp), ex_1u]
theorem exN_3 : wnodeL (zeroS, 8) = (0, 8) := by decide
theorem exN_4 : wnodeL (zeroS, 2) = (0, 2) := by decide
theorem exN_5 : wnodeL (⟨1, [46, 46], 0, false⟩, 0) = (0, 0) := by decide
end Go.Proofs.YtckbhkchnhhecaaDoor
