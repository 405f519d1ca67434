import Derived.Test.YtilhiafmljmljaaR20
namespace Go.Proofs.Ytilhiafmljmljaa
open Go.RowKit
section
variable {l : List NodeL}
def totL (l : List NodeL) (i : Int) (k : Nat) : Nat := 1 + (((nodeL l i).names.take k).flatMap fun e => listT l e.2).length
def deepL (l : List NodeL) (i : Int) (k : Nat) : Nat := maxN (((nodeL l i).names.take k).map fun e => depthT l e.2)
theorem flat_len {α β γ : Type} (f : α → List β) (g : α → List γ) (es : List α) (h : ∀ e ∈ es, (f e).length = (g e).length) : (es.flatMap f).length = (es.flatMap g).length := by
  induction es with
  | nil => rfl
  | cons e es ih => rw [List.flatMap_cons, List.flatMap_cons, List.length_append, List.length_append, h e List.mem_cons_self, ih fun x hx => h x (List.mem_cons_of_mem _ hx)]
theorem flat_under (es : List EntL) : (es.flatMap fun e => (listT l e.2).map (underL e.1)).length = (es.flatMap fun e => listT l e.2).length := flat_len _ _ es fun _ _ => List.length_map ..
theorem tot_zero (i : Int) : totL l i 0 = 1 := by simp [totL]
theorem tot_succ {i : Int} {k : Nat} (hk : k < (nodeL l i).names.length) : totL l i (k + 1) = totL l i k + (listT l (nodeL l i).names[k].2).length := by
  unfold totL
  rw [List.take_succ_eq_append_getElem hk, List.flatMap_append, List.length_append]
  simp
  omega
theorem tot_all (h : Rig l) {i : Int} (hg : gotB l i = true) : totL l i (nodeL l i).names.length = (listT l i).length := by
  rw [list_is h hg, List.length_cons, flat_under]
  unfold totL
  rw [List.take_length]
  omega
theorem tot_mono {i : Int} : ∀ (b a : Nat), a ≤ b → b ≤ (nodeL l i).names.length → totL l i a ≤ totL l i b := by
  intro b
  induction b with
  | zero => intro a ha _; obtain rfl : a = 0 := by omega
            exact Nat.le_refl _
  | succ b ih =>
    intro a ha hb
    by_cases e : a = b + 1
    · rw [e]; exact Nat.le_refl _
    · have := ih a (by omega) (by omega)
      rw [tot_succ (by omega)]
      omega
theorem tot_fit (h : Rig l) {i : Int} (hg : gotB l i = true) {k : Nat} (hk : k < (nodeL l i).names.length) : totL l i k + (listT l (nodeL l i).names[k].2).length ≤ (listT l i).length := by
  rw [← tot_succ hk, ← tot_all h hg]
  exact tot_mono _ _ hk (Nat.le_refl _)
theorem flat_at {α β : Type} (f : α → List β) : ∀ (es : List α) (k : Nat) (hk : k < es.length) (j : Nat), j < (f es[k]).length → (es.flatMap f)[((es.take k).flatMap f).length + j]? = (f es[k])[j]? := by
  intro es
  induction es with
  | nil => intro k hk; exact absurd hk (by simp)
  | cons e es ih =>
    intro k hk j hj
    cases k with
    | zero =>
      rw [List.flatMap_cons]
      simp only [List.getElem_cons_zero, List.take_zero, List.flatMap_nil, List.length_nil, Nat.zero_add] at hj ⊢
      rw [List.getElem?_append_left hj]
    | succ k =>
      have := ih k (by simpa using hk) j (by simpa using hj)
      rw [List.take_succ_cons, List.flatMap_cons, List.flatMap_cons, List.length_append, List.getElem?_append_right (by omega), List.getElem_cons_succ, ← this]
      congr 1
      omega
theorem parts_at (h : Rig l) {i : Int} (hg : gotB l i = true) {k : Nat} (hk : k < (nodeL l i).names.length) {j : Nat} (hj : j < (listT l (nodeL l i).names[k].2).length) :
    (listT l i)[totL l i k + j]? = some (underL (nodeL l i).names[k].1 (listT l (nodeL l i).names[k].2)[j]) := by
  have h1 := flat_at (fun e : EntL => (listT l e.2).map (underL e.1)) (nodeL l i).names k hk j (by rw [List.length_map]; exact hj)
  rw [list_is h hg]
  have e : totL l i k + j = ((((nodeL l i).names.take k).flatMap fun e : EntL => (listT l e.2).map (underL e.1)).length + j) + 1 := by
    rw [flat_under]
    unfold totL
    omega
  rw [e, List.getElem?_cons_succ, h1, List.getElem?_map, List.getElem?_eq_getElem hj]
  rfl
theorem deep_zero (i : Int) : deepL l i 0 = 0 := by simp [deepL, maxN]
theorem deep_succ {i : Int} {k : Nat} (hk : k < (nodeL l i).names.length) : deepL l i (k + 1) = max (deepL l i k) (depthT l (nodeL l i).names[k].2) := by
  unfold deepL maxN
  rw [List.take_succ_eq_append_getElem hk, List.map_append, List.foldl_append]
  rfl
theorem deep_all (h : Rig l) {i : Int} (hg : gotB l i = true) : depthT l i = deepL l i (nodeL l i).names.length + 1 := by
  rw [depth_is h hg]
  unfold deepL
  rw [List.take_length]
  omega
end
end Go.Proofs.Ytilhiafmljmljaa
