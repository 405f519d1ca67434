import Derived.Test.YtedcffkmfopalaaDoorEngL
namespace Go.Eng
open Go

section
variable {P : Program} {call : Caller} {cf : Cfg} {nt : Nat} {ops : Array Oper}

theorem wanted_eq {ρ : Ren} {T : Tr Value} {a : Act} {o : Oper} (hs : a.tmps.size = nt) (hv : ∀ d, d ∈ tmpsOf ops o → VR ρ (T.val d) (a.tmps.getD d undef)) :
    Region.wanted o (yielded ops a.tmps) = wantV nt ops T o := by
  unfold Region.wanted wantV
  cases hg : o.guard with
  | none => rfl
  | some g =>
    obtain ⟨j, want⟩ := g
    simp only
    have : yielded ops a.tmps j = yieldV nt ops T j := by
      unfold yielded yieldV
      cases hd : (ops[j]?).bind (·.dst) with
      | none => simp
      | some d =>
        simp only [Option.bind_some]
        have hmem : d ∈ tmpsOf ops o := by
          simp only [tmpsOf, Oper.looksAt, hg, hd, List.mem_append]
          exact .inr (by simp)
        have hvr := hv d hmem
        by_cases hlt : d < nt
        · rw [if_pos hlt]
          have hget : a.tmps[d]? = some (a.tmps.getD d undef) := by
            have : d < a.tmps.size := hs ▸ hlt
            simp [Array.getD, this]
          rw [hget]
          generalize a.tmps.getD d undef = x at hvr
          cases hT : T.val d with
          | bool b => rw [hT] at hvr; rw [hvr.bool_inv]
          | _ => rw [hT] at hvr; cases hvr <;> rfl
        · rw [if_neg hlt, Array.getElem?_eq_none (by rw [hs]; exact Nat.le_of_not_lt hlt)]
    rw [this]

def bothD (D : Nat → Bool) (i : Nat) : Nat → Bool := fun j => D j || Nat.beq j i

/-- Where a region stands: D says which ones have come up. -/
structure J (nt : Nat) (L : List Rc) (T₀ : Tr Value) (df : List Df) (H₀ : Tr VObj) (n₀ : Nat) (ρ₀ : Ren) (w₀ : World) (D : Nat → Bool) (ρ : Ren) (a : Act) (w : World) : Prop where
  tr : TR ρ nt (fun t => TDL D t L (T₀.val t)) a
  dr : DR ρ df a.defers
  rel : Rel ρ (fun n => HDL D n L (H₀.get n)) w
  post : Post ρ₀ H₀.get w₀ (fun n => ∃ r ∈ L, D r.i = true ∧ r.next ≤ n ∧ n < r.out.next) (fun n => n < n₀ ∧ ∃ r ∈ L, D r.i = true ∧ n ∈ r.out.dirty) ρ (fun n => HDL D n L (H₀.get n)) w
  free : ∀ r ∈ L, D r.i = false → ∀ n, r.next ≤ n → n < r.out.next → ρ n = none

open Classical in
theorem draw_step (hcr : CallRest call) (hco : CallOk P cf call) {L₁ L₂ : List Rc} {r : Rc} {T₀ T₁ : Tr Value} {H₀ H₁ : Tr VObj} {n₀ n₁ : Nat} {df : List Df} {ρ₀ : Ren} {w₀ : World}
    (hrun : Run P call cf nt ops T₀ H₀ n₀ (L₁ ++ r :: L₂) T₁ H₁ n₁) (hap : (L₁ ++ r :: L₂).Pairwise (Apart ops)) (hanc : ∀ q ∈ L₁ ++ r :: L₂, AncIn ops q)
    (hnd : ((L₁ ++ r :: L₂).map (·.i)).Nodup) (hb : ∀ n, (H₀.get n).isSome → n < n₀) (hg : ∀ g, g < cf.nb → ∃ k, ρ₀ g = some (g, k)) (hfree₀ : ∀ n, n₀ ≤ n → n < n₁ → ρ₀ n = none)
    {D : Nat → Bool} (hD : Closed ops D) (hready : ∀ e ∈ r.o.after, Region.binds .any e = true → D e.on = true) (hnot : D r.i = false) {ro : Option Nat} {Q : Exit → Act → World → Prop}
    {ρ : Ren} {a : Act} {w : World} (hJ : J nt (L₁ ++ r :: L₂) T₀ df H₀ n₀ ρ₀ w₀ D ρ a w) :
    wpOpIn (FR ro) 0 P ops Q r.i (fun a' w' => ∃ ρ', J nt (L₁ ++ r :: L₂) T₀ df H₀ n₀ ρ₀ w₀ (bothD D r.i) ρ' a' w') a w := by
  have hok := hrun.ok hcr
  have kr := hok r (by simp)
  obtain ⟨T', H', n', run₁, run₂⟩ := hrun.split
  have hlink : r.T = T' ∧ r.H = H' ∧ r.next = n' := by cases run₂ with | cons a b c d e t => exact ⟨a, b, c⟩
  obtain ⟨hT, hH, hn⟩ := hlink
  have run₃ : Run P call cf nt ops (putT T' r.o.dst r.out.v) r.out.H r.out.next L₂ T₁ H₁ n₁ := by cases run₂ with | cons a b c d e t => exact t
  have le₁ := run₁.le hcr
  have le₃ := run₃.le hcr
  have bd : ∀ n, (r.H.get n).isSome → n < r.next := by rw [hH, hn]; exact run₁.bound hcr hb
  -- who is before and behind
  have hap' := List.pairwise_append.1 hap
  have ap₁ : ∀ q ∈ L₁, Apart ops q r := fun q hq => hap'.2.2 q hq r (by simp)
  have ap₂ : ∀ q ∈ L₂, Apart ops r q := fun q hq => (List.pairwise_cons.1 hap'.2.1).1 q hq
  have anc_r : ∀ j ∈ r.anc, D j = true := hanc r (by simp) D hD hready
  have not₂ : ∀ q ∈ L₂, D q.i = true → r.i ∉ q.anc := fun q hq hDq hmem => by
    have := hanc q (by simp [hq]) D hD (hD q.i q.o (hok q (by simp [hq])).op hDq) r.i hmem
    rw [hnot] at this; cases this
  have ne₁ : ∀ q ∈ L₁, q.i ≠ r.i := fun q hq e => by
    rw [List.map_append, List.map_cons, List.nodup_append] at hnd
    exact hnd.2.2 q.i (List.mem_map.2 ⟨q, hq, rfl⟩) r.i (by simp) e
  have ne₂ : ∀ q ∈ L₂, q.i ≠ r.i := fun q hq e => by
    rw [List.map_append, List.map_cons, List.nodup_append, List.nodup_cons] at hnd
    exact hnd.2.1.1 (e ▸ List.mem_map.2 ⟨q, hq, rfl⟩)
  -- the temporaries that are looked at
  have tmpEq : ∀ t ∈ tmpsOf ops r.o, TDL D t (L₁ ++ r :: L₂) (T₀.val t) = r.T.val t := fun t ht => by
    rw [TDL_append]
    simp only [TDL]
    rw [if_neg (by rw [hnot]; simp), TDL_none, hT, run₁.tmps hcr t]
    · refine TDL_congr fun q hq hdst => ?_
      rcases ap₁ q hq with hmem | ⟨h1, -⟩
      · exact anc_r _ hmem
      · simp only [tmpApart, hdst, Bool.and_eq_true, Bool.not_eq_true', List.contains_eq_mem, decide_eq_false_iff_not] at h1
        exact absurd ht h1.1.1
    · intro q hq hDq hdst
      rcases ap₂ q hq with hmem | ⟨h1, -⟩
      · exact not₂ q hq hDq hmem
      · simp only [tmpApart, hdst, Bool.and_eq_true, Bool.not_eq_true', List.contains_eq_mem, decide_eq_false_iff_not] at h1
        exact h1.2 ht
  have hg' : ∀ g, g < cf.nb → ∃ k, ρ g = some (g, k) := fun g hgn => by
    obtain ⟨k, hk⟩ := hg g hgn
    exact ⟨k, hJ.post.sub _ _ hk⟩
  have hE : ∀ x ∈ r.o.op.operands, VR ρ (env r.T x) (a.eval x) := fun x hx => by
    have hxo := kr.operands x hx
    cases x with
    | tmp t =>
      have hmem : t ∈ tmpsOf ops r.o := by
        simp only [tmpsOf, Oper.looksAt, List.mem_append, List.mem_filterMap]
        exact .inl ⟨.tmp t, by simpa using hx, rfl⟩
      have := hJ.tr.val t
      rw [tmpEq t hmem] at this
      exact this
    | const v => exact VR.of_flat 8 v hxo
    | global g => obtain ⟨k, hk⟩ := hg' g (by simpa [okOperand, Nat.blt_eq] using hxo); exact .ptr hk
    | func f => exact .func rfl .nil .nil
  have hwant : Region.wanted r.o (yielded ops a.tmps) = wantV nt ops r.T r.o := wanted_eq (ρ := ρ) hJ.tr.size fun d hd => by
    have := hJ.tr.val d
    rw [tmpEq d hd] at this
    exact this
  -- what is touched
  have late₂ : ∀ q ∈ L₂, D q.i = true → ∀ n, n < r.out.next → (r.kd = .e → n < r.next → touch q n → False) ∧ (r.kd = .e → r.next ≤ n → touch q n → False) ∧ (r.kd = .a → touch q n → n < r.next) := by
    intro q hq hDq n hlt
    have hq' := hok q (by simp [hq])
    have hqn := (le₃.2 q hq).1
    rcases ap₂ q hq with hmem | ⟨-, h2⟩
    · exact absurd hmem (not₂ q hq hDq)
    · have key : r.kd = .e → touch q n → False := fun hk ht => by
        simp only [heapApart, hk] at h2
        cases hqk : q.kd with
        | p => exact hq'.quiet (.inl hqk) n ht
        | r m => exact hq'.quiet (.inr ⟨m, hqk⟩) n ht
        | a =>
          obtain ⟨e1, e2⟩ := hq'.alloc hqk
          rcases ht with ht | ht
          · rw [e1] at ht; cases ht
          · omega
        | e => simp [hqk] at h2
      refine ⟨fun hk _ ht => key hk ht, fun hk _ ht => key hk ht, fun hk ht => ?_⟩
      simp only [heapApart, hk] at h2
      cases hqk : q.kd with
      | p => exact absurd ht (hq'.quiet (.inl hqk) n)
      | r m => exact absurd ht (hq'.quiet (.inr ⟨m, hqk⟩) n)
      | a =>
        obtain ⟨e1, e2⟩ := hq'.alloc hqk
        rcases ht with ht | ht
        · rw [e1] at ht; cases ht
        · omega
      | e => simp [hqk] at h2
  have early₁ : r.kd = .e → ∀ q ∈ L₁, ∀ n, touch q n → D q.i = true := fun hk q hq n ht => by
    have hq' := hok q (by simp [hq])
    rcases ap₁ q hq with hmem | ⟨-, h2⟩
    · exact anc_r _ hmem
    · simp only [heapApart, hk] at h2
      cases hqk : q.kd with
      | p => exact absurd ht (hq'.quiet (.inl hqk) n)
      | r m => exact absurd ht (hq'.quiet (.inr ⟨m, hqk⟩) n)
      | a => simp [hqk] at h2
      | e => simp [hqk] at h2
  -- one block that a load looks at
  have readEq : ∀ n, r.kd = .r n → (r.H.get n).isSome → HDL D n (L₁ ++ r :: L₂) (H₀.get n) = r.H.get n := fun n hk hs => by
    rw [HDL_append]
    simp only [HDL]
    rw [if_neg (by rw [hnot]; simp), HDL_none, hH, run₁.heap hcr n]
    · refine HDL_congr fun q hq ht => ?_
      have hq' := hok q (by simp [hq])
      rcases ap₁ q hq with hmem | ⟨-, h2⟩
      · exact anc_r _ hmem
      · exfalso
        simp only [heapApart, hk] at h2
        cases hqk : q.kd with
        | p => exact hq'.quiet (.inl hqk) n ht
        | r m => exact hq'.quiet (.inr ⟨m, hqk⟩) n ht
        | a =>
          obtain ⟨e1, e2⟩ := hq'.alloc hqk
          simp only [hqk, Bool.not_eq_true'] at h2
          have := Nat.ne_of_beq_eq_false h2
          rcases ht with ht | ht
          · rw [e1] at ht; cases ht
          · omega
        | e =>
          simp only [hqk, Bool.and_eq_true, Bool.not_eq_true', Bool.and_eq_false_iff, List.contains_eq_mem, decide_eq_false_iff_not] at h2
          rcases ht with ht | ht
          · exact h2.1 ht
          · rcases h2.2 with h3 | h3
            · have : Nat.ble q.next n = true := Nat.ble_eq_true_of_le ht.1
              rw [this] at h3; cases h3
            · have : Nat.blt n q.out.next = true := by rw [Nat.blt_eq]; exact ht.2
              rw [this] at h3; cases h3
    · intro q hq hDq ht
      have hq' := hok q (by simp [hq])
      have hqn := (le₃.2 q hq).1
      have hlt := bd n hs
      have hle := kr.le
      rcases ap₂ q hq with hmem | ⟨-, h2⟩
      · exact not₂ q hq hDq hmem
      · simp only [heapApart, hk] at h2
        cases hqk : q.kd with
        | p => exact hq'.quiet (.inl hqk) n ht
        | r m => exact hq'.quiet (.inr ⟨m, hqk⟩) n ht
        | a =>
          obtain ⟨e1, e2⟩ := hq'.alloc hqk
          rcases ht with ht | ht
          · rw [e1] at ht; cases ht
          · omega
        | e =>
          simp only [hqk, Bool.not_eq_true', List.contains_eq_mem, decide_eq_false_iff_not] at h2
          rcases ht with ht | ht
          · exact h2 ht
          · omega
  have allEq : r.kd = .e → ∀ n, (r.H.get n).isSome → r.H.get n = HDL D n (L₁ ++ r :: L₂) (H₀.get n) := fun hk n hs => by
    rw [HDL_append]
    simp only [HDL]
    rw [if_neg (by rw [hnot]; simp), HDL_none, hH, run₁.heap hcr n]
    · exact HDL_congr fun q hq ht => (early₁ hk q hq n ht).symm
    · intro q hq hDq ht
      have hlt := bd n hs
      exact (late₂ q hq hDq n (Nat.lt_of_lt_of_le hlt kr.le)).1 hk hlt ht
  -- behind the operation
  have restD : ∀ n, ¬ (∃ q ∈ L₁ ++ r :: L₂, D q.i = true ∧ q.next ≤ n ∧ n < q.out.next) → ¬ (n < n₀ ∧ ∃ q ∈ L₁ ++ r :: L₂, D q.i = true ∧ n ∈ q.out.dirty) →
      HDL D n (L₁ ++ r :: L₂) (H₀.get n) = H₀.get n := fun n hC hDn => by
    refine HDL_none fun q hq hDq ht => ?_
    rcases ht with ht | ht
    · by_cases hn0 : n < n₀
      · exact hDn ⟨hn0, q, hq, hDq, ht⟩
      · have hq' := hok q hq
        have hlt := hq'.dirty n ht
        obtain ⟨M₁, M₂, hM⟩ := List.append_of_mem hq
        rw [hM] at hrun hap
        obtain ⟨T', H', n', r1, r2⟩ := hrun.split
        have hn' : q.next = n' := by cases r2 with | cons a b c d e t => exact c
        obtain ⟨q', hq'm, h1, h2⟩ := r1.tile n (by omega) (by omega)
        have hq'' := hok q' (by rw [hM]; simp [hq'm])
        refine hC ⟨q', by rw [hM]; simp [hq'm], ?_, h1, h2⟩
        have hkd : q.kd = .e := by
          cases hqk : q.kd with
          | p => exact absurd (.inl ht) (hq'.quiet (.inl hqk) n)
          | r m => exact absurd (.inl ht) (hq'.quiet (.inr ⟨m, hqk⟩) n)
          | a => rw [(hq'.alloc hqk).1] at ht; cases ht
          | e => rfl
        rcases (List.pairwise_append.1 hap).2.2 q' hq'm q (by simp) with hmem | ⟨-, h3⟩
        · exact hanc q hq D hD (hD q.i q.o hq'.op hDq) q'.i hmem
        · simp only [heapApart, hkd] at h3
          cases hqk : q'.kd with
          | p => exact absurd (.inr ⟨h1, h2⟩) (hq''.quiet (.inl hqk) n)
          | r m => exact absurd (.inr ⟨h1, h2⟩) (hq''.quiet (.inr ⟨m, hqk⟩) n)
          | a => simp [hqk] at h3
          | e => simp [hqk] at h3
    · exact hC ⟨q, hq, hDq, ht⟩
  have bothI : ∀ q ∈ L₁, bothD D r.i q.i = D q.i := fun q hq => by
    simp only [bothD]
    cases hb : Nat.beq q.i r.i with
    | true => exact absurd (Nat.eq_of_beq_eq_true hb) (ne₁ q hq)
    | false => simp
  have bothJ : ∀ q ∈ L₂, bothD D r.i q.i = D q.i := fun q hq => by
    simp only [bothD]
    cases hb : Nat.beq q.i r.i with
    | true => exact absurd (Nat.eq_of_beq_eq_true hb) (ne₂ q hq)
    | false => simp
  have bothR : bothD D r.i r.i = true := by simp [bothD]
  have freeR : ∀ n, r.next ≤ n → n < r.out.next → ρ n = none := hJ.free r (by simp) hnot
  -- the temporaries behind it
  have tmpB : ∀ t, TDL (bothD D r.i) t (L₁ ++ r :: L₂) (T₀.val t) = if r.o.dst = some t then r.out.v else TDL D t (L₁ ++ r :: L₂) (T₀.val t) := fun t => by
    rw [TDL_append, TDL_append]
    simp only [TDL]
    rw [bothR, TDL_congr (L := L₁) fun q hq _ => bothI q hq, TDL_congr (L := L₂) fun q hq _ => bothJ q hq]
    by_cases hd : r.o.dst = some t
    · rw [if_pos ⟨rfl, hd⟩, if_pos hd]
      refine TDL_none fun q hq hDq hdst => ?_
      rcases ap₂ q hq with hmem | ⟨h1, -⟩
      · exact not₂ q hq hDq hmem
      · simp only [tmpApart, hd, Bool.and_eq_true, Bool.not_eq_true', beq_eq_false_iff_ne] at h1
        exact h1.1.2 hdst
    · rw [if_neg (fun h => hd h.2), if_neg hd, if_neg (fun h => hd h.2)]
  have trB : ∀ {ρ' : Ren} {v' : Value}, Sub ρ ρ' → VR ρ' r.out.v v' → TR ρ' nt (fun t => TDL (bothD D r.i) t (L₁ ++ r :: L₂) (T₀.val t)) (a.put r.o.dst v') := fun {ρ' v'} hs hv => by
    have e : (fun t => TDL (bothD D r.i) t (L₁ ++ r :: L₂) (T₀.val t)) = fun t => if r.o.dst = some t then r.out.v else TDL D t (L₁ ++ r :: L₂) (T₀.val t) := by funext t; exact tmpB t
    rw [e]
    cases hd : r.o.dst with
    | none => simpa [Act.put] using hJ.tr.mono hs
    | some d =>
      have := (hJ.tr.mono hs).put hv (kr.dst d hd).1
      have e2 : (fun t => if some d = some t then r.out.v else TDL D t (L₁ ++ r :: L₂) (T₀.val t)) = fun t => if t = d then r.out.v else TDL D t (L₁ ++ r :: L₂) (T₀.val t) := by
        funext t; simp only [Option.some.injEq, eq_comm]
      rw [e2]; exact this
  have drB : ∀ {ρ' : Ren} {v' : Value}, Sub ρ ρ' → DR ρ' df (a.put r.o.dst v').defers := fun {ρ' v'} hs => by
    cases r.o.dst <;> exact hJ.dr.mono hs
  have freeB : ∀ {ρ' : Ren}, (∀ n, ¬ (r.next ≤ n ∧ n < r.out.next) → ρ' n = ρ n) → ∀ q ∈ L₁ ++ r :: L₂, bothD D r.i q.i = false → ∀ n, q.next ≤ n → n < q.out.next → ρ' n = none := fun {ρ'} hr q hq hDq n h1 h2 => by
    have hne : D q.i = false := by simp only [bothD, Bool.or_eq_false_iff] at hDq; exact hDq.1
    rw [hr n, hJ.free q hq hne n h1 h2]
    rintro ⟨h3, h4⟩
    rcases List.mem_append.1 hq with hq | hq
    · have := (le₁.2 q hq).2; omega
    · cases hq with
      | head => rw [bothR] at hDq; cases hDq
      | tail _ hq => have := (le₃.2 q hq).1; omega
  -- nothing has been touched
  have still : (∀ n, ¬ touch r n) → ∀ v', VR ρ r.out.v v' → ∃ ρ', J nt (L₁ ++ r :: L₂) T₀ df H₀ n₀ ρ₀ w₀ (bothD D r.i) ρ' (a.put r.o.dst v') w := fun hq v' hv => by
    have sub : Sub ρ ρ := fun _ _ h => h
    have eH : (fun n => HDL (bothD D r.i) n (L₁ ++ r :: L₂) (H₀.get n)) = fun n => HDL D n (L₁ ++ r :: L₂) (H₀.get n) := by
      funext n
      refine HDL_congr fun q hqm ht => ?_
      rcases List.mem_append.1 hqm with h | h
      · exact bothI q h
      · cases h with
        | head => exact absurd ht (hq n)
        | tail _ h => exact bothJ q h
    have mem : ∀ q ∈ L₁ ++ r :: L₂, (q = r) ∨ bothD D r.i q.i = D q.i := fun q hqm => by
      rcases List.mem_append.1 hqm with h | h
      · exact .inr (bothI q h)
      · cases h with
        | head => exact .inl rfl
        | tail _ h => exact .inr (bothJ q h)
    have eC : (fun n => ∃ q ∈ L₁ ++ r :: L₂, bothD D r.i q.i = true ∧ q.next ≤ n ∧ n < q.out.next) = fun n => ∃ q ∈ L₁ ++ r :: L₂, D q.i = true ∧ q.next ≤ n ∧ n < q.out.next := by
      funext n; apply propext
      constructor
      · rintro ⟨q, hqm, h1, h2⟩
        rcases mem q hqm with rfl | h
        · exact absurd (.inr h2) (hq n)
        · exact ⟨q, hqm, h ▸ h1, h2⟩
      · rintro ⟨q, hqm, h1, h2⟩
        rcases mem q hqm with rfl | h
        · exact absurd (.inr h2) (hq n)
        · exact ⟨q, hqm, h ▸ h1, h2⟩
    have eD : (fun n => n < n₀ ∧ ∃ q ∈ L₁ ++ r :: L₂, bothD D r.i q.i = true ∧ n ∈ q.out.dirty) = fun n => n < n₀ ∧ ∃ q ∈ L₁ ++ r :: L₂, D q.i = true ∧ n ∈ q.out.dirty := by
      funext n; apply propext
      constructor
      · rintro ⟨h0, q, hqm, h1, h2⟩
        rcases mem q hqm with rfl | h
        · exact absurd (.inl h2) (hq n)
        · exact ⟨h0, q, hqm, h ▸ h1, h2⟩
      · rintro ⟨h0, q, hqm, h1, h2⟩
        rcases mem q hqm with rfl | h
        · exact absurd (.inl h2) (hq n)
        · exact ⟨h0, q, hqm, h ▸ h1, h2⟩
    refine ⟨ρ, trB sub hv, drB (v' := v') sub, ?_, ?_, freeB fun _ _ => rfl⟩
    · rw [eH]; exact hJ.rel
    · rw [eH, eC, eD]; exact hJ.post
  -- something has been touched
  have moved : (r.kd = .a ∨ r.kd = .e) → ∀ (G : Nat → Option VObj) ρ' v' w', (∀ n, (G n).isSome → G n = HDL D n (L₁ ++ r :: L₂) (H₀.get n)) → VR ρ' r.out.v v' →
      Post ρ G w (fun n => r.next ≤ n ∧ n < r.out.next) (· ∈ r.out.dirty) ρ' r.out.H.get w' →
      ∃ ρ', J nt (L₁ ++ r :: L₂) T₀ df H₀ n₀ ρ₀ w₀ (bothD D r.i) ρ' (a.put r.o.dst v') w' := fun hk G ρ' v' w' hG hv hp => by
    have hkd : ∀ n, n ∈ r.out.dirty → r.kd = .e := fun n hd => by
      rcases hk with hk | hk
      · rw [(kr.alloc hk).1] at hd; cases hd
      · exact hk
    obtain ⟨rel', post'⟩ := Post.andThen hJ.post restD hJ.rel hG hp fun n hn => hfree₀ n (by have := le₁.1; omega) (by have := le₃.1; omega)
    have eH : ∀ inst : ∀ n, Decidable ((r.next ≤ n ∧ n < r.out.next) ∨ n ∈ r.out.dirty), (fun n => @ite _ ((r.next ≤ n ∧ n < r.out.next) ∨ n ∈ r.out.dirty) (inst n) (r.out.H.get n) (HDL D n (L₁ ++ r :: L₂) (H₀.get n))) =
        fun n => HDL (bothD D r.i) n (L₁ ++ r :: L₂) (H₀.get n) := by
      intro inst
      funext n
      rw [HDL_append, HDL_append]
      simp only [HDL]
      rw [HDL_congr (D := bothD D r.i) (L := L₁) fun q hq _ => bothI q hq, HDL_congr (D := bothD D r.i) (L := L₂) fun q hq _ => bothJ q hq]
      by_cases ht : touch r n
      · rw [if_pos (Or.symm ht), if_pos ⟨bothR, ht⟩]
        symm
        refine HDL_none fun q hq hDq htq => ?_
        have hl := late₂ q hq hDq n
        rcases ht with ht | ht
        · have hlt := kr.dirty n ht
          exact (hl (Nat.lt_of_lt_of_le hlt kr.le)).1 (hkd n ht) hlt htq
        · rcases hk with hk | hk
          · have := (hl ht.2).2.2 hk htq; omega
          · exact (hl ht.2).2.1 hk ht.1 htq
      · rw [if_neg (fun h => ht (Or.symm h)), if_neg (fun h => ht h.2), if_neg (fun h => ht h.2)]
    have eC : (fun n => (∃ q ∈ L₁ ++ r :: L₂, D q.i = true ∧ q.next ≤ n ∧ n < q.out.next) ∨ (r.next ≤ n ∧ n < r.out.next)) =
        fun n => ∃ q ∈ L₁ ++ r :: L₂, bothD D r.i q.i = true ∧ q.next ≤ n ∧ n < q.out.next := by
      funext n; apply propext
      constructor
      · rintro (⟨q, hqm, h1, h2⟩ | h)
        · exact ⟨q, hqm, by simp [bothD, h1], h2⟩
        · exact ⟨r, by simp, bothR, h⟩
      · rintro ⟨q, hqm, h1, h2⟩
        rcases List.mem_append.1 hqm with h | h
        · exact .inl ⟨q, hqm, bothI q h ▸ h1, h2⟩
        · cases h with
          | head => exact .inr h2
          | tail _ h => exact .inl ⟨q, hqm, bothJ q h ▸ h1, h2⟩
    have eD : (fun n => (n < n₀ ∧ ∃ q ∈ L₁ ++ r :: L₂, D q.i = true ∧ n ∈ q.out.dirty) ∨ (n ∈ r.out.dirty ∧ ¬ ∃ q ∈ L₁ ++ r :: L₂, D q.i = true ∧ q.next ≤ n ∧ n < q.out.next)) =
        fun n => n < n₀ ∧ ∃ q ∈ L₁ ++ r :: L₂, bothD D r.i q.i = true ∧ n ∈ q.out.dirty := by
      funext n; apply propext
      constructor
      · rintro (⟨h0, q, hqm, h1, h2⟩ | ⟨hd, hC⟩)
        · exact ⟨h0, q, hqm, by simp [bothD, h1], h2⟩
        · refine ⟨?_, r, by simp, bothR, hd⟩
          rcases Nat.lt_or_ge n n₀ with h | h
          · exact h
          · obtain ⟨q, hq, h1, h2⟩ := run₁.tile n h (by rw [← hn]; exact kr.dirty n hd)
            exact absurd ⟨q, by simp [hq], early₁ (hkd n hd) q hq n (.inr ⟨h1, h2⟩), h1, h2⟩ hC
      · rintro ⟨h0, q, hqm, h1, h2⟩
        rcases List.mem_append.1 hqm with h | h
        · exact .inl ⟨h0, q, hqm, bothI q h ▸ h1, h2⟩
        · cases h with
          | head =>
            refine .inr ⟨h2, ?_⟩
            rintro ⟨q, hqm, -, h3, -⟩
            have := ((hrun.le hcr).2 q hqm).1
            omega
          | tail _ h => exact .inl ⟨h0, q, hqm, bothJ q h ▸ h1, h2⟩
    have rel'' := Eq.mp (congrArg (fun X => Rel ρ' X w') (eH _)) rel'
    have post'' := Eq.mp (congrArg (fun X => Post ρ₀ H₀.get w₀ _ _ ρ' X w') (eH _)) post'
    rw [eC, eD] at post''
    exact ⟨ρ', trB hp.sub hv, drB (v' := v') hp.sub, rel'', post'', freeB fun n hn => hp.ren n hn⟩
  unfold wpOpIn
  simp only [kr.op]
  rw [hwant]
  cases hran : r.ran with
  | false =>
    obtain ⟨hw0, hout, hkd⟩ := kr.not hran
    rw [hw0, if_neg (by simp)]
    exact ⟨fun _ _ => trivial, still (kr.quiet (.inl hkd)) undef (by rw [hout]; exact undef_VR)⟩
  | true =>
    obtain ⟨hw1, hdef, his⟩ := kr.ran hran
    rw [hw1, if_pos rfl]
    cases hk : r.kd with
    | p =>
      rw [hk] at his
      obtain ⟨-, -, -, v', h1, h2⟩ := his.still hco.1 (.inl rfl) hg' hE (fun n hn => by cases hn) (w := w)
      exact wpIn_value hdef h2 (still (kr.quiet (.inl hk)) v' h1)
    | r n =>
      rw [hk] at his
      obtain ⟨-, -, -, v', h1, h2⟩ := his.still hco.1 (.inr ⟨n, rfl⟩) hg' hE (fun m hm ob hob => by
        injection hm with hm
        subst hm
        exact hJ.rel.hr _ ob (by rw [readEq _ hk (by simp [hob])]; exact hob)) (w := w)
      exact wpIn_value hdef h2 (still (kr.quiet (.inr ⟨n, hk⟩)) v' h1)
    | a =>
      rw [hk] at his
      obtain ⟨v', w', ρ', h1, h2, h3⟩ := his.alloc' (G := fun _ => none) hco.1 hg' hE hJ.rel.lt freeR
      exact wpIn_value hdef h3 (moved (.inl hk) _ ρ' v' w' (fun n hn => by cases hn) h1 h2)
    | e =>
      exact his.all hco hdef hE (hJ.rel.sub fun n hn => allEq hk n hn) bd hg' freeR fun v' w' ρ' hg => moved (.inr hk) _ ρ' v' w' (fun n hn => allEq hk n hn) hg.val hg.post

end
end Go.Eng
