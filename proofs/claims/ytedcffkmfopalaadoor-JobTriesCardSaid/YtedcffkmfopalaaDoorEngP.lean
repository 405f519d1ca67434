import Derived.Test.YtedcffkmfopalaaDoorEngO
namespace Go.Eng
open Go

section
variable {P : Program} {call : Caller} {cf : Cfg} {nt n0 : Nat} {H0 : Tr VObj} {ρ0 : Ren} {w0 : World}

theorem evDraw_facts (hcr : CallRest call) {ops : Array Oper} {st : St} {T' : Tr Value} {H' : Tr VObj} {n' : Nat} {acc : List Rc} (h : evDraw P call cf nt ops (late ops) st.T st.H st.next [] = some (T', H', n', acc)) :
    Run P call cf nt ops st.T st.H st.next acc.reverse T' H' n' ∧ acc.reverse.Pairwise (Apart ops) ∧ (∀ r ∈ acc, AncIn ops r) ∧ Topo acc.reverse ∧ acc.reverse.map (·.i) = late ops ∧ st.next ≤ n' ∧
      Rest st.H st.next ⟨undef, H', n', (acc.flatMap fun r => r.out.dirty).filter fun d => Nat.blt d st.next⟩ := by
  obtain ⟨h1, h2, h3, h4, h5⟩ := evDraw_run (late ops) st.T st.H st.next [] T' H' n' acc h st.T st.H st.next .nil List.Pairwise.nil (by simp) (by intro L₁ r L₂ he; simp at he)
  refine ⟨h1, h2, h3, h4, by simpa using h5, (h1.le hcr).1, fun n hn hnd => ?_⟩
  simp only at hn hnd
  rw [h1.heap hcr n]
  refine HDL_none fun r hr _ ht => ?_
  have hk := h1.ok hcr r hr
  have hl := (h1.le hcr).2 r hr
  rcases ht with ht | ht
  · by_cases h0 : n < st.next
    · refine hnd ?_
      simp only [List.mem_filter, List.mem_flatMap, Nat.blt_eq]
      exact ⟨⟨r, by simpa using hr, ht⟩, h0⟩
    · have := hk.dirty n ht
      have := hk.le
      omega
  · omega

theorem evRegion_ss (hcr : CallRest call) {ro : Option Nat} {ops : Array Oper} {draw : Bool} {st st' : St} (h : evRegion P call cf nt n0 ro ops draw st = some st') (hs : SS n0 H0 st) : SS n0 H0 st' ∧ st.next ≤ st'.next := by
  unfold evRegion at h
  split at h
  · split at h
    · split at h
      · rename_i L hL
        split at h
        · rename_i T' H' n' dirty hf
          obtain ⟨acc, he, rfl⟩ := evFast_draw (late ops) L [] [] _ _ _ _ _ _ _ hL (by simp) hf
          simp only [Option.some.injEq] at h; subst h
          obtain ⟨-, -, -, -, -, hle, hrest⟩ := evDraw_facts hcr he
          exact ⟨hs.step hrest hle fun d hd => by simp only [List.mem_filter, Nat.blt_eq] at hd; exact hd.2, hle⟩
        · cases h
      · cases h
    · cases h
  · exact evSeq_ss hcr _ _ _ h hs

theorem evRegion_ok (hb0 : ∀ n, (H0.get n).isSome → n < n0) (hcr : CallRest call) (hco : CallOk P cf call) (hm : P.follows .mixedOrders = true) {ro ro' : Option Nat} (hro : ro = none → ro' = none) {ops : Array Oper} {draw : Bool} {id B : Nat} (hg : ∀ g, g < cf.nb → ∃ k, ρ0 g = some (g, k))
    (hfree : ∀ n, n0 ≤ n → n < B → ρ0 n = none) {st st' : St} (h : evRegion P call cf nt n0 ro ops draw st = some st') (hs : SS n0 H0 st) (hB : st'.next ≤ B) {ρ : Ren} {a : Act} {w : World} {Q : Exit → Act → World → Prop}
    (hR : SR n0 H0 ρ0 w0 nt ρ st a w) (hQ : ∀ ρ' a' w', SR n0 H0 ρ0 w0 nt ρ' st' a' w' → Q .normal a' w') : (Code.region id ops draw).wpIn (FR ro') 0 P Q a w := by
  unfold evRegion at h
  split at h
  · rename_i hdr
    rw [hdr]
    split at h
    · rename_i hchk
      rw [Bool.and_eq_true, List.all_eq_true] at hchk
      split at h
      · rename_i L hL
        split at h
        · rename_i T' H' n' dirty hf
          obtain ⟨acc, he, rfl⟩ := evFast_draw (late ops) L [] [] _ _ _ _ _ _ _ hL (by simp) hf
          simp only [Option.some.injEq] at h; subst h
          obtain ⟨h1, h2, h3, h4, h5, hle, hrest⟩ := evDraw_facts hcr he
          refine wpIn_region_any hm ?_
          have hn0 := hs.le
          have hnB : n' ≤ B := hB
          have hfr : ∀ n, st.next ≤ n → n < n' → ρ n = none := fun n g1 g2 => by
            rw [hR.post.ren n (by omega)]; exact hfree n (by omega) (by omega)
          have hg' : ∀ g, g < cf.nb → ∃ k, ρ g = some (g, k) := fun g hgn => by
            obtain ⟨k, hk⟩ := hg g hgn
            exact ⟨k, hR.post.sub _ _ hk⟩
          have hw : ∀ {ρ : Ren} {G : Nat → Option VObj}, Rel ρ G w → Rel ρ G { w with drawn := w.drawn + 1 } := fun hr =>
            ⟨fun n o ho => by obtain ⟨b, k, e1, e2⟩ := hr.hr n o ho; exact ⟨b, k, e1, by cases o <;> exact e2⟩, hr.inj, hr.lt⟩
          refine draw_all (Q := Q) (ro := ro') hcr hco h1 h2 (by simpa using h3) h4 (by rw [h5]; exact nodupB_ok hchk.1) ?_ (hs.bound hb0) hg' hfr (df := st.df) (w₀ := { w with drawn := w.drawn + 1 }) ?_
            ops.size (Array.replicate ops.size false) ρ a _ (by simp) (by simp) ?_ ?_
          · intro i hi
            have hmem := hchk.2 i (by simpa using hi)
            have : i ∈ acc.reverse.map (·.i) := by rw [h5]; simpa using hmem
            obtain ⟨r, hr, hri⟩ := List.mem_map.1 this
            exact ⟨r, hr, hri⟩
          · intro ρ' a' w' hJ
            have hD : ∀ r ∈ acc.reverse, decide (r.i < ops.size) = true := fun r hr => by
              have := (Array.getElem?_eq_some_iff.1 (h1.ok hcr r hr).op).1
              simpa using this
            have eT : (fun t => TDL (fun i => decide (i < ops.size)) t acc.reverse (st.T.val t)) = T'.val := by
              funext t
              rw [h1.tmps hcr t]
              exact TDL_congr fun r hr _ => by rw [hD r hr]
            have eH : (fun n => HDL (fun i => decide (i < ops.size)) n acc.reverse (st.H.get n)) = H'.get := by
              funext n
              rw [h1.heap hcr n]
              exact HDL_congr fun r hr _ => by rw [hD r hr]
            have eC : (fun n => ∃ r ∈ acc.reverse, decide (r.i < ops.size) = true ∧ r.next ≤ n ∧ n < r.out.next) = fun n => st.next ≤ n ∧ n < n' := by
              funext n; apply propext
              constructor
              · rintro ⟨r, hr, -, g1, g2⟩
                have := (h1.le hcr).2 r hr
                omega
              · rintro ⟨g1, g2⟩
                obtain ⟨r, hr, g3⟩ := h1.tile n g1 g2
                exact ⟨r, hr, hD r hr, g3⟩
            have eD : (fun n => n < st.next ∧ ∃ r ∈ acc.reverse, decide (r.i < ops.size) = true ∧ n ∈ r.out.dirty) = (· ∈ (acc.flatMap fun r => r.out.dirty).filter fun d => Nat.blt d st.next) := by
              funext n; apply propext
              simp only [List.mem_filter, List.mem_flatMap, Nat.blt_eq]
              constructor
              · rintro ⟨g0, r, hr, -, g1⟩; exact ⟨⟨r, by simpa using hr, g1⟩, g0⟩
              · rintro ⟨⟨r, hr, g1⟩, g0⟩; exact ⟨g0, r, by simpa using hr, hD r (by simpa using hr), g1⟩
            have htr := hJ.tr
            have hpost := hJ.post
            rw [eT] at htr
            rw [eC, eD, eH] at hpost
            have hpost' : Post ρ st.H.get w (fun n => st.next ≤ n ∧ n < n') (· ∈ (acc.flatMap fun r => r.out.dirty).filter fun d => Nat.blt d st.next) ρ' H'.get w' :=
              ⟨hpost.ren, hpost.lt, hpost.hr, hpost.new, hpost.inj, hpost.frame, hpost.live, hpost.free, hpost.os, hpost.tape, hpost.output, hpost.size⟩
            have := hR.step (a' := { tmps := a'.tmps, defers := a.defers }) (out := ⟨undef, H', n', (acc.flatMap fun r : Rc => r.out.dirty).filter fun d => Nat.blt d st.next⟩) (v' := undef) (T := T') hs
              (fun d hd => by simp only [List.mem_filter, Nat.blt_eq] at hd; exact hd.2) ⟨undef_VR, hpost', hrest, hle⟩ (fun n g1 g2 => hfree n (by omega) (by simp only at g2; omega)) ⟨htr.size, htr.val⟩ rfl
            exact hQ ρ' a' w' ⟨htr, hJ.dr, this.rel, this.post⟩
          · intro i o _ hi
            have : Dof (Array.replicate ops.size false) i = false := by
              simp only [Dof, Array.getD_eq_getD_getElem?, Array.getElem?_replicate]
              split <;> rfl
            rw [this] at hi; cases hi
          · have hf : ∀ i, Dof (Array.replicate ops.size false) i = false := fun i => by
              simp only [Dof, Array.getD_eq_getD_getElem?, Array.getElem?_replicate]
              split <;> rfl
            have eT : (fun t => TDL (Dof (Array.replicate ops.size false)) t acc.reverse (st.T.val t)) = st.T.val := by
              funext t; exact TDL_none fun r _ hr => by rw [hf] at hr; cases hr
            have eH : (fun n => HDL (Dof (Array.replicate ops.size false)) n acc.reverse (st.H.get n)) = st.H.get := by
              funext n; exact HDL_none fun r _ hr => by rw [hf] at hr; cases hr
            refine ⟨by rw [eT]; exact hR.tr, hR.dr, by rw [eH]; exact hw hR.rel, ?_, fun r hr _ n g1 g2 => ?_⟩
            · rw [eH]
              refine Post.refl' (fun n => ?_) (fun n => ?_) hR.rel.lt
              · rintro ⟨r, _, hr, -⟩; rw [hf] at hr; cases hr
              · rintro ⟨-, r, _, hr, -⟩; rw [hf] at hr; cases hr
            · have := (h1.le hcr).2 r hr
              exact hfr n (by omega) (by omega)
        · cases h
      · cases h
    · cases h
  · rename_i hdr
    have hdr' : draw = false := by simpa using hdr
    rw [hdr']
    exact wpIn_region (evSeq_ok hb0 hcr hco hro hg hfree _ st st' h hs hB ρ a w Q hR hQ)

end
end Go.Eng
