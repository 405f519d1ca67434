import Derived.Test.YtedcffkmfopalaaDoorEngC
namespace Go.Eng
open Go

section
variable {P : Program} {ρ : Ren}

/-- What 'structV' asks of an operand that it looks at. -/
theorem structV_ok {E E' : Operand → Value} {o : Oper} {v : Value} (h : structV P E o.op = some v) (hE : ∀ x ∈ o.op.operands, VR ρ (E x) (E' x)) :
    ∃ v', VR ρ v v' ∧ ∀ w, (execOp E' o).run P w = .ok (.value v') w := by
  obtain ⟨dst, op, ty, pos, after, guard⟩ := o
  simp only at h hE
  cases op with
  | move x => simp [structV] at h; subst h; exact ⟨_, hE x (by simp [Op.operands]), fun w => by simp [execOp]⟩
  | assign x => simp [structV] at h; subst h; exact ⟨_, hE x (by simp [Op.operands]), fun w => by simp [execOp]⟩
  | pick c a b =>
    have hc := hE c (by simp [Op.operands]); have ha := hE a (by simp [Op.operands]); have hb := hE b (by simp [Op.operands])
    simp only [structV] at h
    cases hv : E c with
    | bool t =>
      rw [hv] at h hc
      simp only [Option.some.injEq] at h
      subst h
      have hc := hc.bool_inv
      exact ⟨if t then E' a else E' b, by cases t <;> simpa, fun w => by simp [execOp, hc, asBool]⟩
    | _ => simp [hv] at h
  | extract t ix =>
    have ht := hE t (by simp [Op.operands])
    simp only [structV] at h
    cases hv : E t with
    | tuple vs =>
      obtain ⟨vs⟩ := vs
      rw [hv] at h ht
      obtain ⟨l', hl, he⟩ := ht.tuple_inv
      obtain ⟨v', h1, h2⟩ := hl.get h
      exact ⟨v', h2, fun w => by simp [execOp, he, Instr.extract, h1]⟩
    | _ => simp [hv] at h
  | makeInterface t x =>
    have hx := hE x (by simp [Op.operands])
    simp only [structV] at h
    cases hu : P.underlying t with
    | none => simp [hu] at h
    | some d =>
      rw [hu] at h
      have : v = .iface t (E x) ∧ ∀ ms, d ≠ .interface ms := by
        cases d <;> simp at h <;> exact ⟨h.symm, by simp⟩
      obtain ⟨rfl, hd⟩ := this
      refine ⟨_, .iface hx, fun w => ?_⟩
      simp only [execOp, Instr.makeInterface, Sem.run_bind, run_underlying hu, Result.andThen_ok]
      cases d <;> first | rfl | exact absurd rfl (hd _)
  | makeFunc fn first captured =>
    simp only [structV] at h
    split at h
    · rename_i hf
      simp only [Option.some.injEq] at h
      subst h
      refine ⟨_, .func hf (VRs.mapV first.toList fun x hx => hE x (by simp only [Op.operands, Array.mem_append]; exact .inl (by simpa using hx)))
        (VRs.mapV captured.toList fun x hx => hE x (by simp only [Op.operands, Array.mem_append]; exact .inr (by simpa using hx))), fun w => ?_⟩
      have e1 : (⟨first.toList.map E'⟩ : Array Value) = first.map E' := by simp [← Array.toList_inj]
      have e2 : (⟨captured.toList.map E'⟩ : Array Value) = captured.map E' := by simp [← Array.toList_inj]
      rw [e1, e2]
      simp [execOp, Instr.makeFunc]
    · cases h
  | nilCheck x =>
    have hx := hE x (by simp [Op.operands])
    simp only [structV] at h
    split at h
    · rename_i a hv
      simp only [Option.some.injEq] at h; subst h
      refine ⟨_, hx, fun w => ?_⟩
      rw [hv] at hx
      obtain ⟨b', k, -, he⟩ := hx.ptr_inv
      simp [execOp, he]
    · rename_i t u hv
      simp only [Option.some.injEq] at h; subst h
      refine ⟨_, hx, fun w => ?_⟩
      rw [hv] at hx
      obtain ⟨b', -, he⟩ := hx.iface_inv
      simp [execOp, he]
    · rename_i f a c hv
      simp only [Option.some.injEq] at h; subst h
      refine ⟨_, hx, fun w => ?_⟩
      rw [hv] at hx
      obtain ⟨a', c', -, -, he⟩ := hx.func_inv
      simp [execOp, he]
    · cases h
  | field t x f =>
    have hx := hE x (by simp [Op.operands])
    simp only [structV] at h
    split at h
    · rename_i fs cs hu hv
      rw [hv] at hx
      obtain ⟨cs', hc, he⟩ := hx.agg_inv
      split at h
      · rename_i fd hf
        obtain ⟨v', h1, h2⟩ := partV_ok h hc
        exact ⟨v', h1, fun w => by simp [execOp, Instr.field, run_underlying hu, hf, he, asAgg, h2]⟩
      · cases h
    · cases h
  | fieldAddr t x f =>
    have hx := hE x (by simp [Op.operands])
    simp only [structV] at h
    split at h
    · rename_i fs a hu hv
      rw [hv] at hx
      split at h
      · rename_i fd hf
        split at h
        · rename_i i hi
          split at h
          · cases h
          · rename_i hz
            simp only [Option.some.injEq] at h; subst h
            have hp := hx
            obtain ⟨b', k, -, he⟩ := hx.ptr_inv
            rw [he] at hp
            exact ⟨_, hp.add _, fun w => by simp [execOp, Instr.fieldAt, run_underlying hu, hf, he, Instr.sureAddr, fieldPlace, sizeOf, typeInfo, hi, hz]⟩
        · cases h
      · cases h
    · cases h
  | indexAddr t x ix =>
    have hx := hE x (by simp [Op.operands]); have hix := hE ix (by simp [Op.operands])
    simp only [structV] at h
    split at h
    · rename_i n elem a k j hu hv hj
      rw [hv] at hx; rw [hj] at hix
      split at h
      · rename_i i hi
        split at h
        · rename_i hb
          simp only [Option.some.injEq] at h; subst h
          have hp := hx
          obtain ⟨b', kk, -, he⟩ := hx.ptr_inv
          rw [he] at hp
          refine ⟨_, hp.add _, fun w => ?_⟩
          simp [execOp, Instr.indexAt, run_underlying hu, hix.int_inv, asIntOf, he, Instr.sureAddr, hb, sizeOf, typeInfo, hi]
        · cases h
      · cases h
    · rename_i elem a n c k j hu hv hj
      rw [hv] at hx; rw [hj] at hix
      split at h
      · rename_i i hi
        split at h
        · rename_i hb
          simp only [Option.some.injEq] at h; subst h
          obtain ⟨a', c', he, hs, hx'⟩ := hx.slice_inv
          rcases hx' with ⟨ho, hsp, kk, hk, -⟩ | ⟨-, hn, -⟩
          · have hp : VR ρ (.pointer (some a)) (.pointer (some a')) := by
              obtain ⟨b, o, s⟩ := a; obtain ⟨b', o', s'⟩ := a'
              simp only at ho hsp hk hs
              subst ho hsp hs
              exact .ptr hk
            refine ⟨_, hp.add _, fun w => ?_⟩
            simp [execOp, Instr.indexAt, run_underlying hu, hix.int_inv, asIntOf, he, hb, sizeOf, typeInfo, hi]
          · subst hn; omega
        · cases h
      · cases h
    · cases h
  | slice t x lo hi mx =>
    have hx := hE x (by simp [Op.operands])
    simp only [structV] at h
    have sub : ∀ (z : Option Operand), (∀ y, z = some y → VR ρ (E y) (E' y)) → ∀ y k q, z.map E = some y → bnd y k = some q → z.map E' = some y := by
      intro z hz y k q he hb
      cases z with
      | none => simp at he
      | some z =>
        simp only [Option.map_some, Option.some.injEq] at he ⊢
        have := hz z rfl
        rw [he] at this
        cases y <;> simp [bnd] at hb
        exact this.int_inv
    have hlo : ∀ y, lo = some y → VR ρ (E y) (E' y) := fun y hy => hE y (by simp [Op.operands, hy])
    have hhi : ∀ y, hi = some y → VR ρ (E y) (E' y) := fun y hy => hE y (by simp [Op.operands, hy])
    have hmx : ∀ y, mx = some y → VR ρ (E y) (E' y) := fun y hy => hE y (by simp [Op.operands, hy])
    obtain ⟨v', h1, h2⟩ := sliceV_ok (vl' := lo.map E') (vh' := hi.map E') (mx' := mx.map E') h hx (fun len cap l hh m hb => by
      unfold bounds at *
      have hn : ∀ z : Option Operand, z.map E = none → z.map E' = none := fun z hz => by cases z <;> simp at hz ⊢
      cases e3 : mx.map E with
      | none =>
        rw [e3] at hb
        simp only [hn mx e3] at hb ⊢
        cases e2 : hi.map E with
        | none =>
          rw [e2] at hb
          simp only [hn hi e2] at hb ⊢
          cases e1 : lo.map E with
          | none => rw [e1] at hb; simp only [hn lo e1] at hb ⊢; exact hb
          | some y =>
            rw [e1] at hb
            cases hy : bnd y len with
            | none => simp [hy] at hb
            | some q => simp only [sub lo hlo y len q e1 hy]; exact hb
        | some z =>
          rw [e2] at hb
          cases hz : bnd z cap with
          | none => simp [hz] at hb
          | some r =>
            simp only [sub hi hhi z cap r e2 hz, hz] at hb ⊢
            cases e1 : lo.map E with
            | none => rw [e1] at hb; simp only [hn lo e1] at hb ⊢; exact hb
            | some y =>
              rw [e1] at hb
              cases hy : bnd y r with
              | none => simp [hy] at hb
              | some q => simp only [sub lo hlo y r q e1 hy]; exact hb
      | some u =>
        rw [e3] at hb
        cases hu : bnd u cap with
        | none => simp [hu] at hb
        | some m0 =>
          simp only [sub mx hmx u cap m0 e3 hu, hu] at hb ⊢
          cases e2 : hi.map E with
          | none => simp [e2] at hb
          | some z =>
            rw [e2] at hb
            cases hz : bnd z m0 with
            | none => simp [hz] at hb
            | some r =>
              simp only [sub hi hhi z m0 r e2 hz, hz] at hb ⊢
              cases e1 : lo.map E with
              | none => rw [e1] at hb; simp only [hn lo e1] at hb ⊢; exact hb
              | some y =>
                rw [e1] at hb
                cases hy : bnd y r with
                | none => simp [hy] at hb
                | some q => simp only [sub lo hlo y r q e1 hy]; exact hb) (by cases mx <;> simp)
    exact ⟨v', h1, fun w => by simp [execOp, h2]⟩
  | typeAssert x xt asserted ok =>
    have hx := hE x (by simp [Op.operands])
    simp only [structV] at h
    split at h
    · rename_i t u hv
      rw [hv] at hx
      obtain ⟨u', hu', he⟩ := hx.iface_inv
      have fails : (match P.info? asserted with
              | some j => match j.zero with
                | some z => if flat 8 z then some (Value.tuple ⟨[z, .bool false]⟩) else none
                | none => none
              | none => none) = some v → VR ρ v v ∧ ∃ z, v = .tuple ⟨[z, .bool false]⟩ ∧ ∀ w, (zeroValue asserted).run P w = .ok z w := by
        intro h
        split at h
        · rename_i j hj
          split at h
          · rename_i z hz
            split at h
            · rename_i hf
              simp only [Option.some.injEq] at h; subst h
              exact ⟨.tuple (.cons (VR.of_flat 8 z hf) (.cons (.atom rfl) .nil)), z, rfl, fun w => by simp [zeroValue, typeInfo, hj, hz]⟩
            · cases h
          · cases h
        · cases h
      split at h
      · rename_i want hw
        split at h
        · rename_i i hi
          split at h
          · rename_i hl
            have hm := missingMethod_none (List.isEmpty_iff.1 hl)
            simp only [Option.some.injEq] at h; subst h
            refine ⟨if ok then .tuple ⟨[.iface t u', .bool true]⟩ else .iface t u', by
              cases ok
              · exact .iface hu'
              · exact .tuple (.cons (.iface hu') (.cons (.atom rfl) .nil)), fun w => ?_⟩
            simp [execOp, Instr.typeAssert, run_underlying hw, he, typeInfo, hi, hm]
          · rename_i hl
            obtain ⟨m, hm⟩ := missingMethod_some (want := want) (got := i.methods) (fun e => by rw [e] at hl; cases hl)
            split at h
            · rename_i hok
              obtain ⟨hf, z, rfl, hz⟩ := fails h
              exact ⟨_, hf, fun w => by simp [execOp, Instr.typeAssert, run_underlying hw, he, typeInfo, hi, hm, hz, hok]⟩
            · cases h
        · cases h
      · rename_i d hni hw
        split at h
        · rename_i hta
          simp only [Option.some.injEq] at h; subst h
          refine ⟨if ok then .tuple ⟨[u', .bool true]⟩ else u', by
            cases ok
            · exact hu'
            · exact .tuple (.cons hu' (.cons (.atom rfl) .nil)), fun w => ?_⟩
          simp only [execOp, Instr.typeAssert, Sem.run_bind, run_underlying hw, Result.andThen_ok, he, hta, if_true]
          cases d <;> first | exact absurd rfl (hni _) | simp
        · rename_i hta
          split at h
          · rename_i hok
            obtain ⟨hf, z, rfl, hz⟩ := fails h
            refine ⟨_, hf, fun w => ?_⟩
            simp only [execOp, Instr.typeAssert, Sem.run_bind, run_underlying hw, Result.andThen_ok, he, hta, if_false]
            cases d <;> first | exact absurd rfl (hni _) | simp [hz, hok]
          · cases h
      · cases h
    · cases h
  | call c =>
    obtain ⟨callee, args, ats⟩ := c
    cases callee with
    | builtin b =>
      obtain ⟨args⟩ := args; obtain ⟨ats⟩ := ats
      cases b <;> try (simp [structV] at h; done)
      · match args, ats, h with
        | [x], [t], h =>
          have hx := hE x (by simp [Op.operands, Call.operands])
          simp only [structV] at h
          split at h
          · rename_i e a n c hu hv
            split at h
            · cases h
            · rename_i hf
              simp only [Option.some.injEq] at h; subst h
              rw [hv] at hx
              obtain ⟨a', c', he, -, hx'⟩ := hx.slice_inv
              rcases hx' with ⟨-, -, k, -, hc, -⟩ | ⟨-, -, hc⟩
              · have := hc hf
                subst this
                exact ⟨_, .atom rfl, fun w => by simp [execOp, resolve, invoke, builtin, Builtin.cap_, run_underlying hu, he]⟩
              · exact absurd hc hf
          · cases h
        | [], _, h => simp [structV] at h
        | _ :: _ :: _, _, h => simp [structV] at h
        | [_], [], h => simp [structV] at h
        | [_], _ :: _ :: _, h => simp [structV] at h
      · match args, ats, h with
        | [x], [t], h =>
          have hx := hE x (by simp [Op.operands, Call.operands])
          simp only [structV] at h
          split at h
          · rename_i e a n c hu hv
            simp only [Option.some.injEq] at h; subst h
            rw [hv] at hx
            obtain ⟨a', c', he, -⟩ := hx.slice_inv
            exact ⟨_, .atom rfl, fun w => by simp [execOp, resolve, invoke, builtin, Builtin.len_, run_underlying hu, he]⟩
          · rename_i n e hu
            simp only [Option.some.injEq] at h; subst h
            exact ⟨_, .atom rfl, fun w => by simp [execOp, resolve, invoke, builtin, Builtin.len_, run_underlying hu]⟩
          · cases h
        | [], _, h => simp [structV] at h
        | _ :: _ :: _, _, h => simp [structV] at h
        | [_], [], h => simp [structV] at h
        | [_], _ :: _ :: _, h => simp [structV] at h
    | _ => simp [structV] at h
  | binOp op t x y yt =>
    have hx := hE x (by simp [Op.operands]); have hy := hE y (by simp [Op.operands])
    cases op <;> try (simp [structV] at h; done)
    · simp only [structV] at h
      cases hu : P.underlying t with
      | none => simp [hu] at h
      | some d =>
        simp only [hu, Option.map_eq_some_iff] at h
        obtain ⟨b, hb, rfl⟩ := h
        refine ⟨_, .atom rfl, fun w => ?_⟩
        obtain ⟨-, hn⟩ := nilEq_ok hu hb hx hy w
        obtain ⟨h1, h2, -⟩ := hn .eql x y
        simp [execOp, h1, h2]
    · simp only [structV] at h
      cases hu : P.underlying t with
      | none => simp [hu] at h
      | some d =>
        simp only [hu, Option.map_eq_some_iff] at h
        obtain ⟨b, hb, rfl⟩ := h
        refine ⟨_, .atom rfl, fun w => ?_⟩
        obtain ⟨-, hn⟩ := nilEq_ok hu hb hx hy w
        obtain ⟨h1, -, h3⟩ := hn .neq x y
        simp [execOp, h1, h3]
  | build t parts =>
    simp only [structV] at h
    cases hz : (P.info? t).bind (·.zero) with
    | none => simp [hz] at h
    | some z =>
      simp only [hz] at h
      split at h
      · rename_i hf
        rw [Option.map_eq_some_iff] at h
        obtain ⟨r, hr, rfl⟩ := h
        obtain ⟨r', h1, h2⟩ := built_ok (E' := E') hz hf (fun p hp => hE p.2 (by simp [Op.operands]; exact ⟨p.1, by simpa using hp⟩)) hr
        refine ⟨.agg r', by obtain ⟨l⟩ := r; obtain ⟨l'⟩ := r'; exact .agg h2, fun w => ?_⟩
        have hb := run_build (P := P) w t (parts.map fun (i, x) => (i, E' x)) r' (by simpa using h1)
        simp [execOp, hb]
      · cases h
  | index t x ix =>
    have hx := hE x (by simp [Op.operands]); have hix := hE ix (by simp [Op.operands])
    simp only [structV] at h
    split at h
    · rename_i n e cs k j hu hv hj
      rw [hv] at hx; rw [hj] at hix
      obtain ⟨cs', hc, he⟩ := hx.agg_inv
      split at h
      · rename_i i hi
        split at h
        · rename_i hb
          obtain ⟨v', h1, h2⟩ := partV_ok h hc
          exact ⟨v', h1, fun w => by simp [execOp, Instr.index, run_underlying hu, hix.int_inv, asIntOf, he, hb, sizeOf, typeInfo, hi, h2]⟩
        · cases h
      · cases h
    · cases h
  | _ => simp [structV] at h

end
end Go.Eng
