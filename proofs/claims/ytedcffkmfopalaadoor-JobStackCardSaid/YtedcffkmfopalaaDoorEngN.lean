import Derived.Test.YtedcffkmfopalaaDoorEngM
namespace Go.Eng
open Go

section
variable {P : Program} {call : Caller} {cf : Cfg} {nt : Nat} {ops : Array Oper}

def nodupB : List Nat → Bool
  | [] => true
  | x :: l => !l.contains x && nodupB l

theorem nodupB_ok : ∀ {l : List Nat}, nodupB l = true → l.Nodup
  | [], _ => List.nodup_nil
  | x :: l, h => by
    simp only [nodupB, Bool.and_eq_true, Bool.not_eq_true', List.contains_eq_mem, decide_eq_false_iff_not] at h
    exact List.nodup_cons.2 ⟨h.1, nodupB_ok h.2⟩

theorem count_set : ∀ (l : List Bool) (i : Nat), l[i]? = some false → (l.set i true).count false + 1 = l.count false
  | [], i, h => by simp at h
  | b :: l, 0, h => by simp at h; subst h; simp
  | b :: l, i + 1, h => by
    have := count_set l i (by simpa using h)
    simp only [List.set_cons_succ, List.count_cons]
    omega

theorem count_zero : ∀ (l : List Bool), l.count false = 0 → ∀ (i : Nat) (b : Bool), l[i]? = some b → b = true
  | [], _, i, b, hb => by simp at hb
  | x :: l, h, 0, b, hb => by simp at hb; subst hb; cases x <;> simp_all
  | x :: l, h, i + 1, b, hb => by
    simp only [List.count_cons] at h
    exact count_zero l (by omega) i b (by simpa using hb)

def Dof (listed : Array Bool) : Nat → Bool := fun i => listed.getD i false

theorem Dof_set {listed : Array Bool} {i : Nat} (hi : i < listed.size) : Dof (listed.setIfInBounds i true) = bothD (Dof listed) i := by
  funext j
  simp only [Dof, bothD, Array.getD_eq_getD_getElem?]
  by_cases e : j = i
  · subst e
    simp [hi]
  · rw [Array.getElem?_setIfInBounds_ne (Ne.symm e)]
    cases hb : Nat.beq j i with
    | true => exact absurd (Nat.eq_of_beq_eq_true hb) e
    | false => simp

theorem draw_all (hcr : CallRest call) (hco : CallOk P cf call) {L : List Rc} {T₀ T₁ : Tr Value} {H₀ H₁ : Tr VObj} {n₀ n₁ : Nat} {df : List Df} {ρ₀ : Ren} {w₀ : World}
    (hrun : Run P call cf nt ops T₀ H₀ n₀ L T₁ H₁ n₁) (hap : L.Pairwise (Apart ops)) (hanc : ∀ q ∈ L, AncIn ops q) (hto : Topo L) (hnd : (L.map (·.i)).Nodup) (hall : ∀ i, i < ops.size → ∃ r ∈ L, r.i = i)
    (hb : ∀ n, (H₀.get n).isSome → n < n₀) (hg : ∀ g, g < cf.nb → ∃ k, ρ₀ g = some (g, k)) (hfree₀ : ∀ n, n₀ ≤ n → n < n₁ → ρ₀ n = none) {ro : Option Nat} {Q : Exit → Act → World → Prop}
    (hQ : ∀ ρ a w, J nt L T₀ df H₀ n₀ ρ₀ w₀ (fun i => decide (i < ops.size)) ρ a w → Q .normal a w) :
    ∀ (fuel : Nat) (listed : Array Bool) (ρ : Ren) (a : Act) (w : World), listed.size = ops.size → listed.toList.count false ≤ fuel → Closed ops (Dof listed) → J nt L T₀ df H₀ n₀ ρ₀ w₀ (Dof listed) ρ a w →
      wpAnyIn (FR ro) 0 P .any ops Q fuel listed a w := by
  intro fuel
  induction fuel with
  | zero =>
    intro listed ρ a w hs hc hcl hJ
    have htrue : ∀ i, i < ops.size → listed[i]? = some true := fun i hi => by
      have hlt : i < listed.size := by omega
      have h1 : listed[i]? = some listed[i] := Array.getElem?_eq_getElem hlt
      have h2 := count_zero listed.toList (by omega) i listed[i] (by simp)
      rw [h1, h2]
    refine ⟨?_, hQ ρ a w ?_⟩
    · cases hr : Region.ready .any ops listed with
      | nil => rfl
      | cons i l =>
        have hm : i ∈ Region.ready .any ops listed := by rw [hr]; simp
        obtain ⟨h1, o, ho, -⟩ := mem_ready.1 hm
        have hi := (Array.getElem?_eq_some_iff.1 ho).1
        simp [Array.getD_eq_getD_getElem?, htrue i hi] at h1
    · have : Dof listed = fun i => decide (i < ops.size) := by
        funext i
        by_cases hi : i < ops.size
        · simp [Dof, Array.getD_eq_getD_getElem?, htrue i hi, hi]
        · simp [Dof, Array.getD_eq_getD_getElem?, Array.getElem?_eq_none (show listed.size ≤ i by omega), hi]
      rw [← this]; exact hJ
  | succ fuel ih =>
    intro listed ρ a w hs hc hcl hJ
    refine ⟨fun hr => hQ ρ a w ?_, fun i hi => ?_⟩
    · have hlisted : ∀ k M₁ M₂, M₁.length = k → L = M₁ ++ M₂ → ∀ r ∈ M₁, Dof listed r.i = true := by
        intro k
        induction k with
        | zero => intro M₁ M₂ hk _ r hr; rw [List.eq_nil_of_length_eq_zero hk] at hr; cases hr
        | succ k ihM =>
          intro M₁ M₂ hk hM q hq
          rcases List.eq_nil_or_concat M₁ with rfl | ⟨M₁, r, rfl⟩
          · cases hq
          rw [List.concat_eq_append] at hM hk hq
          have ih' := ihM M₁ (r :: M₂) (by simpa using hk) (by rw [hM]; simp)
          rcases List.mem_append.1 hq with hq | hq
          · exact ih' q hq
          · simp only [List.mem_singleton] at hq
            subst hq
            cases hD : Dof listed q.i with
            | true => rfl
            | false =>
              exfalso
              have hqL : q ∈ L := by rw [hM]; simp
              have hok := hrun.ok hcr q hqL
              have hlt := (Array.getElem?_eq_some_iff.1 hok.op).1
              have : q.i ∈ Region.ready .any ops listed := mem_ready.2 ⟨by
                  have hl : q.i < listed.size := by omega
                  simp only [Dof, Array.getD_eq_getD_getElem?, Array.getElem?_eq_getElem hl, Option.getD_some] at hD ⊢
                  exact hD, q.o, hok.op, fun e he hbd => by
                  obtain ⟨q', hq', hqe⟩ := hto M₁ q M₂ (by rw [hM]; simp) e he hbd
                  have := ih' q' hq'
                  rw [hqe] at this
                  exact this⟩
              rw [hr] at this; cases this
      have : Dof listed = fun i => decide (i < ops.size) := by
        funext i
        by_cases hi : i < ops.size
        · obtain ⟨r, hrL, rfl⟩ := hall i hi
          simp [hlisted _ L [] rfl (by simp) r hrL, hi]
        · simp [Dof, Array.getD_eq_getD_getElem?, Array.getElem?_eq_none (show listed.size ≤ i by omega), hi]
      rw [← this]; exact hJ
    · obtain ⟨h1, o, ho, h3⟩ := mem_ready.1 hi
      have hlt := (Array.getElem?_eq_some_iff.1 ho).1
      have hl : i < listed.size := by omega
      have hli : listed[i]? = some false := by
        simp only [Array.getD_eq_getD_getElem?, Array.getElem?_eq_getElem hl, Option.getD_some] at h1
        rw [Array.getElem?_eq_getElem hl, h1]
      obtain ⟨r, hrL, rfl⟩ := hall i hlt
      obtain ⟨L₁, L₂, rfl⟩ := List.append_of_mem hrL
      have hok := hrun.ok hcr r hrL
      have hoo : o = r.o := by have := hok.op; rw [ho] at this; injection this
      subst hoo
      have hready : ∀ e ∈ r.o.after, Region.binds .any e = true → Dof listed e.on = true := fun e he hbd => h3 e he hbd
      have hnot : Dof listed r.i = false := by simp [Dof, Array.getD_eq_getD_getElem?, hli]
      refine wpOpIn_mono ?_ (draw_step (Q := Q) (ro := ro) hcr hco hrun hap hanc hnd hb hg hfree₀ hcl hready hnot hJ)
      rintro a' w' ⟨ρ', hJ'⟩
      refine ih (listed.setIfInBounds r.i true) ρ' a' w' (by simpa using hs) ?_ ?_ (by rw [Dof_set hl]; exact hJ')
      · have := count_set listed.toList r.i (by simpa using hli)
        simp only [Array.toList_setIfInBounds]
        omega
      · rw [Dof_set hl]
        intro j o' ho' hj e he hbd
        simp only [bothD, Bool.or_eq_true] at hj ⊢
        rcases hj with hj | hj
        · exact .inl (hcl j o' ho' hj e he hbd)
        · have := Nat.eq_of_beq_eq_true hj
          subst this
          rw [ho] at ho'
          injection ho' with ho'
          subst ho'
          exact .inl (hready e he hbd)

end
end Go.Eng
