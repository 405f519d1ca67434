/-
  The laws on spots, on slashes, and on paths that are joined, plainly.
-/
import Derived.Test.YtckbhkchnhhecaaDoorWalkPlain3
namespace Go.Proofs.YtckbhkchnhhecaaDoor

/-! ### A spot -/
def SpotOk (l : List NodeL) (s : SpotL) : Prop :=
  dirE l s.dir = 0 ∧ (s.name = [] → s.ino = s.dir) ∧ (s.name ≠ [] → s.ino = lookL l s.dir s.name)
theorem spot_go {l : List NodeL} (hr : RightP l) (who : Int) (follow slash : Bool) : ∀ i ps hops, (∀ q ∈ ps, q ≠ []) → (goW l who follow slash i ps hops).2 = 0 → SpotOk l (goW l who follow slash i ps hops).1 := by
  refine go_ind l who follow slash (fun i ps hops R => (∀ q ∈ ps, q ≠ []) → R.2 = 0 → SpotOk l R.1) ?_ ?_ ?_ ?_ ?_ ?_ ?_ ?_ ?_ ?_ ?_
  · intro i hops _ _; exact ⟨(right_root hr).1, fun _ => rfl, fun h => absurd rfl h⟩
  · intro i hops p rest hd _ he; exact absurd he hd
  · intro i hops p rest _ _ _ he; cases he
  · intro i hops p hd _ hn hp _
    refine ⟨hd, fun e => absurd e (hp p (by simp)), fun _ => ?_⟩
    exact ((look_neg hr hd p).1 hn).symm
  · intro i hops p rest _ _ _ _ _ he; cases he
  · intro i hops p rest _ _ _ _ _ _ _ he; cases he
  · intro i hops p rest _ _ _ _ _ _ hx _ he; exact absurd he hx
  · intro i hops p rest R _ _ _ _ _ _ _ ih hp he
    refine ih (fun q hq => ?_) he
    rcases List.mem_append.1 hq with hq | hq
    · exact parts_ne _ q hq
    · exact hp q (by simp [hq])
  · intro i hops p _ _ _ _ _ _ _ he; cases he
  · intro i hops p hd _ _ _ _ hp _; exact ⟨hd, fun e => absurd e (hp p (by simp)), fun _ => rfl⟩
  · intro i hops p rest R _ _ _ _ _ ih hp he; exact ih (fun q hq => hp q (by simp [hq])) he
theorem law_spot {l : List NodeL} (hr : RightP l) (who fr : Int) (p : Str) (f : Bool) (h : (walkL l who fr p f).2 = 0) : SpotOk l (walkL l who fr p f).1 := by
  unfold walkL at h ⊢
  split at h
  · rename_i hc; exact absurd h hc
  · rename_i hc
    rw [if_neg hc]
    split at h
    · rename_i hp
      rw [if_pos hp]
      split at h
      · rename_i hd; exact absurd h hd
      · rename_i hd
        rw [if_neg hd]
        exact ⟨Decidable.not_not.1 hd, fun _ => rfl, fun e => absurd rfl e⟩
    · rename_i hp
      rw [if_neg hp]
      exact spot_go hr who f _ _ _ _ (parts_ne p) h

/-! ### A slash at the end -/
def SlashOk (l : List NodeL) (A B : ResL) : Prop :=
  (A.2 ≠ 0 ∧ (B.2 = A.2 ∨ A.2 = 4)) ∨ (A.2 = 0 ∧ A.1.slash = true ∧ B.2 = 0 ∧ A.1.ino = B.1.ino ∧ A.1.dir = B.1.dir ∧ (A.1.ino < 0 ∨ (gotB l A.1.ino = true ∧ (nodeL l A.1.ino).kind = 2)))
theorem slash_go {l : List NodeL} (hr : RightP l) (who : Int) (slash : Bool) : ∀ i ps hops, SlashOk l (goW l who false true i ps hops) (goW l who true slash i ps hops) := by
  refine go_ind l who false true (fun i ps hops R => SlashOk l R (goW l who true slash i ps hops)) ?_ ?_ ?_ ?_ ?_ ?_ ?_ ?_ ?_ ?_ ?_
  · intro i hops
    rw [go_nil]
    exact .inr ⟨rfl, rfl, rfl, rfl, rfl, .inr (dir_got (right_root hr).1)⟩
  · intro i hops p rest hd; rw [go_dir hd]; exact .inl ⟨hd, .inl rfl⟩
  · intro i hops p rest hd hm; rw [go_may hd hm]; exact .inl ⟨by simp, .inl rfl⟩
  · intro i hops p hd hm hn; rw [go_none1 hd hm hn rfl]; exact .inr ⟨rfl, rfl, rfl, rfl, rfl, .inl (show (-1 : Int) < 0 by decide)⟩
  · intro i hops p rest hd hm hn hr; rw [go_none2 hd hm hn hr]; exact .inl ⟨by simp, .inl rfl⟩
  · intro i hops p rest hd hm hn hk hc h8; rw [go_loop hd hm hn hk (.inr (.inl rfl)) h8]; exact .inl ⟨by simp, .inl rfl⟩
  · intro i hops p rest hd hm hn hk hc h8 hx; rw [go_bad hd hm hn hk (.inr (.inl rfl)) h8 hx]; exact .inl ⟨hx, .inl rfl⟩
  · intro i hops p rest R hd hm hn hk hc h8 hx ih; rw [go_link hd hm hn hk (.inr (.inl rfl)) h8 hx]; exact ih
  · intro i hops p hd hm hn hk hs h2; exact .inl ⟨by simp, .inr rfl⟩
  · intro i hops p hd hm hn hk h2
    have h3 : (nodeL l (lookL l i p)).kind = 2 := Decidable.byContradiction fun h => h2 ⟨rfl, h⟩
    rw [go_spot hd hm hn (by rw [h3]; simp) rfl (by rw [h3]; simp)]
    exact .inr ⟨rfl, rfl, rfl, rfl, rfl, .inr ⟨(look_got hr hd p).2 hn, h3⟩⟩
  · intro i hops p rest R hd hm hn hk hr ih; rw [go_on hd hm hn hk hr]; exact ih
theorem law_slash {l : List NodeL} (hr : RightP l) (who fr : Int) (p : Str) (h : p ≠ []) (hl : p.length ≤ 90) : SlashOk l (walkL l who fr (p ++ [47]) false) (walkL l who fr p true) := by
  have h1 : firstAt fr (p ++ [47]) = firstAt fr p := by unfold firstAt; rw [pre_slash h]
  unfold walkL
  rw [check_slash h hl, parts_slash, suf_slash, h1]
  split
  · rename_i hc; exact .inl ⟨hc, .inl rfl⟩
  · split
    · split
      · rename_i hd; exact .inl ⟨hd, .inl rfl⟩
      · rename_i hd
        exact .inr ⟨rfl, rfl, rfl, rfl, rfl, .inr (dir_got (Decidable.not_not.1 hd))⟩
    · exact slash_go hr who _ _ _ _

/-! ### Paths that are joined -/
theorem check_short {p : Str} (h : checkE p = 0) : p.length ≤ 100 := by
  unfold checkE at h
  split at h
  · cases h
  · split at h
    · cases h
    · omega
/-- Of a path that has no part: it is the root's. -/
theorem no_part {path : Str} (h : checkE path = 0) (hp : parts path = []) : Lib.hasPrefix path [47] = true := by
  have hne : path ≠ [] := by rintro rfl; cases h
  have hall := spans_none (l := path) (by simpa [parts] using hp)
  rw [pre_eq]
  cases path with
  | nil => exact absurd rfl hne
  | cons c r =>
    have := hall 0 (Nat.le_refl _) (by simp)
    simp at this
    simp [this]
theorem join_go {l : List NodeL} (who : Int) (sp f sl : Bool) {qs : List Str} (hq : qs ≠ []) : ∀ i ps hops, (ps = [] → i = 0) → (goW l who true sp i ps hops).2 = 0 → 0 ≤ (goW l who true sp i ps hops).1.ino →
    ∃ h2, hops ≤ h2 ∧ goW l who f sl i (ps ++ qs) hops = goW l who f sl (goW l who true sp i ps hops).1.ino qs h2 := by
  refine go_ind l who true sp (fun i ps hops R => (ps = [] → i = 0) → R.2 = 0 → 0 ≤ R.1.ino → ∃ h2, hops ≤ h2 ∧ goW l who f sl i (ps ++ qs) hops = goW l who f sl R.1.ino qs h2) ?_ ?_ ?_ ?_ ?_ ?_ ?_ ?_ ?_ ?_ ?_
  · intro i hops h0 _ _
    exact ⟨hops, Nat.le_refl _, by rw [h0 rfl, List.nil_append]⟩
  · intro i hops p rest hd _ he; exact absurd he hd
  · intro i hops p rest _ _ _ he; cases he
  · intro i hops p _ _ _ _ _ hi
    exact absurd hi (show ¬ (0 : Int) ≤ -1 by decide)
  · intro i hops p rest _ _ _ _ _ he; cases he
  · intro i hops p rest _ _ _ _ _ _ _ he; cases he
  · intro i hops p rest _ _ _ _ _ _ hx _ he; exact absurd he hx
  · intro i hops p rest R hd hm hn hk _ h8 hx ih _ he hi
    have h0 : parts (nodeL l (lookL l i p)).data ++ rest = [] → firstAt i (nodeL l (lookL l i p)).data = 0 := fun e0 => by
      have hp := (List.append_eq_nil_iff.1 e0).1
      unfold firstAt
      rw [if_pos (no_part hx hp)]
    obtain ⟨h2, hle, e⟩ := ih h0 he hi
    refine ⟨h2, by omega, ?_⟩
    rw [List.cons_append, go_link hd hm hn hk (.inl (by simp [hq])) h8 hx, ← List.append_assoc, e]
  · intro i hops p _ _ _ _ _ _ _ he; cases he
  · intro i hops p hd hm hn hk _ _ _ _
    refine ⟨hops, Nat.le_refl _, ?_⟩
    rw [List.singleton_append, go_on hd hm hn (fun h => hk ⟨h, .inl rfl⟩) hq]
  · intro i hops p rest R hd hm hn hk hr ih _ he hi
    obtain ⟨h2, hle, e⟩ := ih (fun e0 => absurd e0 hr) he hi
    refine ⟨h2, hle, ?_⟩
    rw [List.cons_append, go_on hd hm hn hk (by simp [hr]), e]
/-- More links ahead: the same, or too many. -/
theorem more_go (l : List NodeL) (who : Int) (f sl : Bool) : ∀ i ps hops, ∀ d, goW l who f sl i ps (hops + d) = goW l who f sl i ps hops ∨ goW l who f sl i ps (hops + d) = (zeroS, 8) := by
  refine go_ind l who f sl (fun i ps hops R => ∀ d, goW l who f sl i ps (hops + d) = R ∨ goW l who f sl i ps (hops + d) = (zeroS, 8)) ?_ ?_ ?_ ?_ ?_ ?_ ?_ ?_ ?_ ?_ ?_
  · intro i hops d; exact .inl go_nil
  · intro i hops p rest hd d; exact .inl (go_dir hd)
  · intro i hops p rest hd hm d; exact .inl (go_may hd hm)
  · intro i hops p hd hm hn d; exact .inl (go_none1 hd hm hn rfl)
  · intro i hops p rest hd hm hn hr d; exact .inl (go_none2 hd hm hn hr)
  · intro i hops p rest hd hm hn hk hc h8 d; exact .inl (go_loop hd hm hn hk hc (by omega))
  · intro i hops p rest hd hm hn hk hc h8 hx d
    by_cases h : 8 ≤ hops + d
    · exact .inr (go_loop hd hm hn hk hc h)
    · exact .inl (go_bad hd hm hn hk hc h hx)
  · intro i hops p rest R hd hm hn hk hc h8 hx ih d
    by_cases h : 8 ≤ hops + d
    · exact .inr (go_loop hd hm hn hk hc h)
    · rw [go_link hd hm hn hk hc h hx, show hops + d + 1 = hops + 1 + d by omega]
      exact ih d
  · intro i hops p hd hm hn hk hs h2 d; exact .inl (go_file hd hm hn (fun h => hk ⟨h.1, h.2.resolve_left (by simp)⟩) rfl ⟨hs, h2⟩)
  · intro i hops p hd hm hn hk h2 d; exact .inl (go_spot hd hm hn (fun h => hk ⟨h.1, h.2.resolve_left (by simp)⟩) rfl h2)
  · intro i hops p rest R hd hm hn hk hr ih d; rw [go_on hd hm hn hk hr]; exact ih d
theorem node_ok {R : ResL} {j : Int} (h : wnodeL R = (j, 0)) : R.2 = 0 ∧ 0 ≤ R.1.ino ∧ R.1.ino = j := by
  unfold wnodeL at h
  split at h
  · rename_i hne
    exact absurd (congrArg Prod.snd h) hne
  · rename_i h0
    split at h
    · cases h
    · rename_i hi
      exact ⟨Decidable.not_not.1 h0, by omega, congrArg Prod.fst h⟩
theorem join_suf {p q : Str} (hp : p ≠ []) (hq : q ≠ []) (hr : Lib.hasPrefix q [47] = false) : Lib.hasSuffix (joinL p q) [47] = Lib.hasSuffix q [47] ∧ joinL p q ≠ [] ∧ ((0 : UInt8) ∈ joinL p q ↔ (0 : UInt8) ∈ p ∨ (0 : UInt8) ∈ q) := by
  have hn : ¬ (p = [] ∨ Lib.hasPrefix q [47] = true) := by rintro (h | h); exact hp h; rw [hr] at h; cases h
  unfold joinL
  rw [if_neg hn, if_neg hq]
  split
  · refine ⟨?_, by simp [hp], by simp⟩
    rw [suf_eq _ (by simp [hp]), suf_eq _ hq, List.getLast_append_of_ne_nil _ hq]
  · refine ⟨?_, by simp [hp], by simp⟩
    rw [suf_eq _ (by simp [hp]), suf_eq _ hq, List.getLast_append_of_ne_nil _ hq]
theorem check_ne {p : Str} (h : checkE p = 0) : p ≠ [] := by rintro rfl; cases h
theorem check_zero {p : Str} (h : checkE p = 0) : p ≠ [] ∧ p.length ≤ 100 ∧ (0 : UInt8) ∉ p ∧ ∀ q ∈ parts p, q.length ≤ 12 := by
  have hne := check_ne h
  have hl := check_short h
  rw [checkE_parts, if_neg hne, if_neg (by omega)] at h
  split at h
  · cases h
  · rename_i h0
    split at h
    · cases h
    · rename_i h1
      refine ⟨hne, hl, h0, fun q hq => ?_⟩
      exact Nat.le_of_not_lt fun hb => h1 (List.any_eq_true.2 ⟨q, hq, decide_eq_true hb⟩)
theorem check_join {p q : Str} (hp : checkE p = 0) (hq : checkE q = 0) (hr : Lib.hasPrefix q [47] = false) : checkE (joinL p q) = 0 ∨ (checkE (joinL p q) = 9 ∧ 100 < (joinL p q).length) := by
  obtain ⟨p1, p2, p3, p4⟩ := check_zero hp
  obtain ⟨q1, q2, q3, q4⟩ := check_zero hq
  obtain ⟨j1, j2, j3⟩ := join_suf p1 q1 hr
  have hj := (join_parts (p := p) hr).1
  rw [checkE_parts, if_neg j2]
  by_cases hl : 100 < (joinL p q).length
  · rw [if_pos hl]; exact .inr ⟨rfl, hl⟩
  · rw [if_neg hl, if_neg (fun h => by rcases j3.1 h with h | h; exact p3 h; exact q3 h), if_neg]
    · exact .inl rfl
    · rw [hj]
      intro h
      obtain ⟨x, hx, hb⟩ := List.any_eq_true.1 h
      simp only [decide_eq_true_iff] at hb
      rcases List.mem_append.1 hx with hx | hx
      · have := p4 x hx; omega
      · have := q4 x hx; omega
theorem law_joins {l : List NodeL} (hr : RightP l) (who fr : Int) (p q : Str) (i j : Int) (hq0 : Lib.hasPrefix q [47] = false) (h1 : wnodeL (walkL l who fr p true) = (i, 0)) (h2 : wnodeL (walkL l who i q true) = (j, 0)) :
    wnodeL (walkL l who fr (joinL p q) true) = (j, 0) ∨ (wnodeL (walkL l who fr (joinL p q) true)).2 = 8 ∨ ((wnodeL (walkL l who fr (joinL p q) true)).2 = 9 ∧ 100 < (joinL p q).length) := by
  obtain ⟨a1, a2, a3⟩ := node_ok h1
  have hcp : checkE p = 0 := Decidable.byContradiction fun h => by
    have : walkL l who fr p true = (zeroS, checkE p) := by unfold walkL; rw [if_pos h]
    rw [this] at a1
    exact h a1
  obtain ⟨b1, b2, b3⟩ := node_ok h2
  have hcq : checkE q = 0 := Decidable.byContradiction fun h => by
    have : walkL l who i q true = (zeroS, checkE q) := by unfold walkL; rw [if_pos h]
    rw [this] at b1
    exact h b1
  have hpq : parts q ≠ [] := fun e => by have := no_part hcq e; rw [hq0] at this; cases this
  have hp1 := check_ne hcp
  have hq1 := check_ne hcq
  rcases check_join hcp hcq hq0 with hcj | ⟨hcj, hlen⟩
  · have hf : firstAt fr (joinL p q) = firstAt fr p := by unfold firstAt; rw [(join_parts (p := p) hq0).2]
    have hfi : firstAt i q = i := by unfold firstAt; rw [hq0]; rfl
    have hW : walkL l who fr (joinL p q) true = goW l who true (Lib.hasSuffix q [47]) (firstAt fr p) (parts p ++ parts q) 0 := by
      unfold walkL
      rw [if_neg (by simp [hcj]), (join_parts (p := p) hq0).1, if_neg (by simp [hpq]), hf, (join_suf hp1 hq1 hq0).1]
    have hQ : walkL l who i q true = goW l who true (Lib.hasSuffix q [47]) i (parts q) 0 := by
      unfold walkL
      rw [if_neg (by simp [hcq]), if_neg hpq, hfi]
    have key : ∃ hops, walkL l who fr (joinL p q) true = goW l who true (Lib.hasSuffix q [47]) i (parts q) hops := by
      by_cases hpp : parts p = []
      · have h0 : firstAt fr p = 0 := by unfold firstAt; rw [if_pos (no_part hcp hpp)]
        have hP : walkL l who fr p true = (⟨0, [], 0, true⟩, 0) := by
          unfold walkL
          rw [if_neg (by simp [hcp]), if_pos hpp, h0, if_neg (by simp [(right_root hr).1])]
        rw [hP] at a3
        refine ⟨0, ?_⟩
        rw [hW, hpp, List.nil_append, h0]
        rw [← a3]
      · have hP : walkL l who fr p true = goW l who true (Lib.hasSuffix p [47]) (firstAt fr p) (parts p) 0 := by
          unfold walkL
          rw [if_neg (by simp [hcp]), if_neg hpp]
        rw [hP] at a1 a2 a3
        obtain ⟨h3, _, e⟩ := join_go who (Lib.hasSuffix p [47]) true (Lib.hasSuffix q [47]) hpq (firstAt fr p) (parts p) 0 (fun e => absurd e hpp) a1 a2
        exact ⟨h3, by rw [hW, e, a3]⟩
    obtain ⟨h3, e⟩ := key
    have := more_go l who true (Lib.hasSuffix q [47]) i (parts q) 0 h3
    rw [Nat.zero_add] at this
    rcases this with h | h
    · exact .inl (by rw [e, h, ← hQ]; exact h2)
    · exact .inr (.inl (by rw [e, h]; rfl))
  · refine .inr (.inr ⟨?_, hlen⟩)
    have : walkL l who fr (joinL p q) true = (zeroS, 9) := by unfold walkL; rw [hcj, if_pos (by decide)]
    rw [this]; rfl
end Go.Proofs.YtckbhkchnhhecaaDoor
