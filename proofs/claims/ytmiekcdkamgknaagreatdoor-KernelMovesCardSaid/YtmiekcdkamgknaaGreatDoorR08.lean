import Derived.Test.YtmiekcdkamgknaaGreatDoorR07
set_option linter.unusedSectionVars false
namespace Go.Eng
open Go
section
variable [Base] {P:Program} {call:Caller} {cf:Cfg} {nt:Nat} {ops:Array Oper}
theorem wanted_eq {ρ:Ren}{T:Tr Value}{a:Act}{o:Oper}(hs:a.tmps.size=nt)(hv : ∀d,d∈tmpsOf ops o→VR ρ (T.val d) (a.tmps.getD d undef)) :
 Region.wanted o (yielded ops a.tmps)=wantV nt ops T o:=by
 unfold Region.wanted wantV
 cases hg:o.guard with
 | none=>rfl
 | some g =>
    obtain⟨j,want⟩:=g
    simp only
    have:yielded ops a.tmps j=yieldV nt ops T j:=by
     unfold yielded yieldV
     cases hd:(ops[j]?).bind (·.dst)with
     | none=>simp
     | some d =>
        simp only[Option.bind_some]
        have hmem:d∈tmpsOf ops o:=by
         simp only[tmpsOf,Oper.looksAt,hg,hd,List.mem_append]
         exact .inr (by simp)
        have hvr:=hv d hmem
        by_cases hlt:d<nt
        · rw[if_pos hlt]
          have hget:a.tmps[d]? = some (a.tmps.getD d undef):=by
           have:d<a.tmps.size:=hs▸hlt
           simp[Array.getD,this]
          rw[hget]
          generalize a.tmps.getD d undef=x at hvr
          cases hT:T.val d with
          | bool b=>rw[hT]at hvr;rw[hvr.bool_inv]
          | _ =>
             rw[hT]at hvr
             cases hvr<;>first | rfl | (rename_i hnb;cases x<;>first | rfl | exact absurd rfl (hnb _))
        · rw[if_neg hlt,Array.getElem?_eq_none (by rw[hs];exact Nat.le_of_not_lt hlt)]
    rw[this]
def bothD (D:Nat→Bool)(i:Nat):Nat→Bool:=fun j=>D j || Nat.beq j i
structure J (nt:Nat) (L:List Rc) (T₀:Tr Value) (df:List Df) (H₀:Tr VObj) (n₀:Nat) (ρ₀:Ren) (w₀:World) (D:Nat→Bool) (ρ:Ren) (a:Act) (w:World):Prop where
 tr:TR ρ nt (fun t=>TDL D t L (T₀.val t)) a
 dr:DR ρ df a.defers
 rel:Rel ρ (fun n=>HDL D n L (H₀.get n)) w
 post:Post ρ₀ H₀.get w₀ (fun n=>∃r∈L,D r.i=true∧r.next≤n∧n<r.out.next) (fun n=>n<n₀∧∃r∈L,D r.i=true∧n∈r.out.dirty) ρ (fun n=>HDL D n L (H₀.get n)) w
 free : ∀r∈L,D r.i=false→∀n,r.next≤n→n<r.out.next→ρ n=none
open Classical in
theorem draw_step (hcr:CallRest call)(hco:CallOk P cf call){L₁ L₂:List Rc}{r:Rc}{T₀ T₁:Tr Value}{H₀ H₁:Tr VObj}{n₀ n₁:Nat}{df:List Df}{ρ₀:Ren}{w₀:World}
 (hrun:Run P call cf nt ops T₀ H₀ n₀ (L₁++r::L₂) T₁ H₁ n₁) (hap:(L₁++r::L₂).Pairwise (Apart ops)) (hanc : ∀q∈L₁++r::L₂,AncIn ops q)
 (hnd:((L₁++r::L₂).map (·.i)).Nodup) (hb : ∀n,(H₀.get n).isSome→n<n₀) (hg : ∀g,g<cf.nb→∃k,ρ₀ g=some (g,k)) (hfree₀ : ∀n,n₀≤n→n<n₁→ρ₀ n=none)
 {D:Nat→Bool} (hD:Closed ops D) (hready : ∀e∈r.o.after,Region.binds .any e=true→D e.on=true) (hnot:D r.i=false) {ro:Option Nat} {Q:Exit→Act→World→Prop}
 {ρ:Ren} {a:Act} {w:World} (hJ:J nt (L₁++r::L₂) T₀ df H₀ n₀ ρ₀ w₀ D ρ a w) :
 wpOpIn (FR ro) 0 P ops Q r.i (fun a' w'=>∃ρ',J nt (L₁++r::L₂) T₀ df H₀ n₀ ρ₀ w₀ (bothD D r.i) ρ' a' w') a w:=by
 have hok:=hrun.ok hcr
 have kr:=hok r (by simp)
 obtain⟨T',H',n',run₁,run₂⟩:=hrun.split
 have hlink:r.T=T'∧r.H=H'∧r.next=n':=by cases run₂ with | cons a b c d e t=>exact⟨a,b,c⟩
 obtain⟨hT,hH,hn⟩:=hlink
 have run₃:Run P call cf nt ops (putT T' r.o.dst r.out.v) r.out.H r.out.next L₂ T₁ H₁ n₁:=by cases run₂ with | cons a b c d e t=>exact t
 have le₁:=run₁.le hcr
 have le₃:=run₃.le hcr
 have bd : ∀n,(r.H.get n).isSome→n<r.next:=by rw[hH,hn];exact run₁.bound hcr hb
 have hap':=List.pairwise_append.1 hap
 have ap₁ : ∀q∈L₁,Apart ops q r:=fun q hq=>hap'.2.2 q hq r (by simp)
 have ap₂ : ∀q∈L₂,Apart ops r q:=fun q hq=>(List.pairwise_cons.1 hap'.2.1).1 q hq
 have anc_r : ∀j∈r.anc,D j=true:=hanc r (by simp) D hD hready
 have not₂ : ∀q∈L₂,D q.i=true→r.i∉q.anc:=fun q hq hDq hmem=>by
  have:=hanc q (by simp[hq]) D hD (hD q.i q.o (hok q (by simp[hq])).op hDq) r.i hmem
  rw[hnot]at this;cases this
 have ne₁ : ∀q∈L₁,q.i≠r.i:=fun q hq e=>by
  rw[List.map_append,List.map_cons,List.nodup_append]at hnd
  exact hnd.2.2 q.i (List.mem_map.2 ⟨q,hq,rfl⟩) r.i (by simp) e
 have ne₂ : ∀q∈L₂,q.i≠r.i:=fun q hq e=>by
  rw[List.map_append,List.map_cons,List.nodup_append,List.nodup_cons]at hnd
  exact hnd.2.1.1 (e▸List.mem_map.2 ⟨q,hq,rfl⟩)
 have tmpEq : ∀t∈tmpsOf ops r.o,TDL D t (L₁++r::L₂) (T₀.val t)=r.T.val t:=fun t ht=>by
  rw[TDL_append]
  simp only[TDL]
  rw[if_neg (by rw[hnot];simp),TDL_none,hT,run₁.tmps hcr t]
  · refine TDL_congr fun q hq hdst=> ?_
    rcases ap₁ q hq with hmem | ⟨h1, -⟩
    · exact anc_r _ hmem
    · simp only[tmpApart,hdst,Bool.and_eq_true,Bool.not_eq_true',List.contains_eq_mem,decide_eq_false_iff_not]at h1
      exact absurd ht h1.1.1
  · intro q hq hDq hdst
    rcases ap₂ q hq with hmem | ⟨h1, -⟩
    · exact not₂ q hq hDq hmem
    · simp only[tmpApart,hdst,Bool.and_eq_true,Bool.not_eq_true',List.contains_eq_mem,decide_eq_false_iff_not]at h1
      exact h1.2 ht
 have hg' : ∀g,g<cf.nb→∃k,ρ g=some (g,k):=fun g hgn=>by
  obtain⟨k,hk⟩:=hg g hgn
  exact⟨k,hJ.post.sub _ _ hk⟩
 have hE : ∀x∈r.o.op.operands,VR ρ (env r.T x) (a.eval x):=fun x hx=>by
  have hxo:=kr.operands x hx
  cases x with
  | tmp t =>
     have hmem:t∈tmpsOf ops r.o:=by
      simp only[tmpsOf,Oper.looksAt,List.mem_append,List.mem_filterMap]
      exact .inl ⟨.tmp t,by simpa using hx,rfl⟩
     have:=hJ.tr.val t
     rw[tmpEq t hmem]at this
     exact this
  | const v=>exact VR.of_flat 8 v hxo
  | global g=>obtain⟨k,hk⟩:=hg' g (by simpa[okOperand,Nat.blt_eq]using hxo);exact .ptr hk
  | func f=>exact .func rfl .nil .nil
 have hwant:Region.wanted r.o (yielded ops a.tmps)=wantV nt ops r.T r.o:=wanted_eq (ρ:=ρ) hJ.tr.size fun d hd=>by
  have:=hJ.tr.val d
  rw[tmpEq d hd]at this
  exact this
 have late₂ : ∀q∈L₂,D q.i=true→∀n,n<r.out.next→(r.kd = .e→n<r.next→touch q n→False)∧(r.kd = .e→r.next≤n→touch q n→False)∧(r.kd = .a→touch q n→n<r.next):=by
  intro q hq hDq n hlt
  have hq':=hok q (by simp[hq])
  have hqn:=(le₃.2 q hq).1
  rcases ap₂ q hq with hmem | ⟨-,h2⟩
  · exact absurd hmem (not₂ q hq hDq)
  · have key:r.kd = .e→touch q n→False:=fun hk ht=>by
     simp only[heapApart,hk]at h2
     cases hqk:q.kd with
     | p=>exact hq'.quiet (.inl hqk) n ht
     | r m=>exact hq'.quiet (.inr ⟨m,hqk⟩) n ht
     | a =>
        obtain⟨e1,e2⟩:=hq'.alloc hqk
        rcases ht with ht | ht
        · rw[e1]at ht;cases ht
        · omega
     | e=>simp[hqk]at h2
    refine⟨fun hk _ ht=>key hk ht,fun hk _ ht=>key hk ht,fun hk ht=> ?_⟩
    simp only[heapApart,hk]at h2
    cases hqk:q.kd with
    | p=>exact absurd ht (hq'.quiet (.inl hqk) n)
    | r m=>exact absurd ht (hq'.quiet (.inr ⟨m,hqk⟩) n)
    | a =>
       obtain⟨e1,e2⟩:=hq'.alloc hqk
       rcases ht with ht | ht
       · rw[e1]at ht;cases ht
       · omega
    | e=>simp[hqk]at h2
 have early₁:r.kd = .e→∀q∈L₁,∀n,touch q n→D q.i=true:=fun hk q hq n ht=>by
  have hq':=hok q (by simp[hq])
  rcases ap₁ q hq with hmem | ⟨-,h2⟩
  · exact anc_r _ hmem
  · simp only[heapApart,hk]at h2
    cases hqk:q.kd with
    | p=>exact absurd ht (hq'.quiet (.inl hqk) n)
    | r m=>exact absurd ht (hq'.quiet (.inr ⟨m,hqk⟩) n)
    | a=>simp[hqk]at h2
    | e=>simp[hqk]at h2
 have readEq : ∀n,r.kd = .r n→(r.H.get n).isSome→HDL D n (L₁++r::L₂) (H₀.get n)=r.H.get n:=fun n hk hs=>by
  rw[HDL_append]
  simp only[HDL]
  rw[if_neg (by rw[hnot];simp),HDL_none,hH,run₁.heap hcr n]
  · refine HDL_congr fun q hq ht=> ?_
    have hq':=hok q (by simp[hq])
    rcases ap₁ q hq with hmem | ⟨-,h2⟩
    · exact anc_r _ hmem
    · exfalso
      simp only[heapApart,hk]at h2
      cases hqk:q.kd with
      | p=>exact hq'.quiet (.inl hqk) n ht
      | r m=>exact hq'.quiet (.inr ⟨m,hqk⟩) n ht
      | a =>
         obtain⟨e1,e2⟩:=hq'.alloc hqk
         simp only[hqk,Bool.not_eq_true']at h2
         have:=Nat.ne_of_beq_eq_false h2
         rcases ht with ht | ht
         · rw[e1]at ht;cases ht
         · omega
      | e =>
         simp only[hqk,Bool.and_eq_true,Bool.not_eq_true',Bool.and_eq_false_iff,List.contains_eq_mem,decide_eq_false_iff_not]at h2
         rcases ht with ht | ht
         · exact h2.1 ht
         · rcases h2.2 with h3 | h3
           · have:Nat.ble q.next n=true:=Nat.ble_eq_true_of_le ht.1
             rw[this]at h3;cases h3
           · have:Nat.blt n q.out.next=true:=by rw[Nat.blt_eq];exact ht.2
             rw[this]at h3;cases h3
  · intro q hq hDq ht
    have hq':=hok q (by simp[hq])
    have hqn:=(le₃.2 q hq).1
    have hlt:=bd n hs
    have hle:=kr.le
    rcases ap₂ q hq with hmem | ⟨-,h2⟩
    · exact not₂ q hq hDq hmem
    · simp only[heapApart,hk]at h2
      cases hqk:q.kd with
      | p=>exact hq'.quiet (.inl hqk) n ht
      | r m=>exact hq'.quiet (.inr ⟨m,hqk⟩) n ht
      | a =>
         obtain⟨e1,e2⟩:=hq'.alloc hqk
         rcases ht with ht | ht
         · rw[e1]at ht;cases ht
         · omega
      | e =>
         simp only[hqk,Bool.not_eq_true',List.contains_eq_mem,decide_eq_false_iff_not]at h2
         rcases ht with ht | ht
         · exact h2 ht
         · omega
 have allEq:r.kd = .e→∀n,(r.H.get n).isSome→r.H.get n=HDL D n (L₁++r::L₂) (H₀.get n):=fun hk n hs=>by
  rw[HDL_append]
  simp only[HDL]
  rw[if_neg (by rw[hnot];simp),HDL_none,hH,run₁.heap hcr n]
  · exact HDL_congr fun q hq ht=>(early₁ hk q hq n ht).symm
  · intro q hq hDq ht
    have hlt:=bd n hs
    exact(late₂ q hq hDq n (Nat.lt_of_lt_of_le hlt kr.le)).1 hk hlt ht
 have restD : ∀n,¬(∃q∈L₁++r::L₂,D q.i=true∧q.next≤n∧n<q.out.next)→¬(n<n₀∧∃q∈L₁++r::L₂,D q.i=true∧n∈q.out.dirty) →
  HDL D n (L₁++r::L₂) (H₀.get n)=H₀.get n:=fun n hC hDn=>by
  refine HDL_none fun q hq hDq ht=> ?_
  rcases ht with ht | ht
  · by_cases hn0:n<n₀
    · exact hDn ⟨hn0,q,hq,hDq,ht⟩
    · have hq':=hok q hq
      have hlt:=hq'.dirty n ht
      obtain⟨M₁,M₂,hM⟩:=List.append_of_mem hq
      rw[hM]at hrun hap
      obtain⟨T',H',n',r1,r2⟩:=hrun.split
      have hn':q.next=n':=by cases r2 with | cons a b c d e t=>exact c
      obtain⟨q',hq'm,h1,h2⟩:=r1.tile n (by omega) (by omega)
      have hq'':=hok q' (by rw[hM];simp[hq'm])
      refine hC ⟨q',by rw[hM];simp[hq'm],?_,h1,h2⟩
      have hkd:q.kd = .e:=by
       cases hqk:q.kd with
       | p=>exact absurd (.inl ht) (hq'.quiet (.inl hqk) n)
       | r m=>exact absurd (.inl ht) (hq'.quiet (.inr ⟨m,hqk⟩) n)
       | a=>rw[(hq'.alloc hqk).1]at ht;cases ht
       | e=>rfl
      rcases(List.pairwise_append.1 hap).2.2 q' hq'm q (by simp)with hmem | ⟨-,h3⟩
      · exact hanc q hq D hD (hD q.i q.o hq'.op hDq) q'.i hmem
      · simp only[heapApart,hkd]at h3
        cases hqk:q'.kd with
        | p=>exact absurd (.inr ⟨h1,h2⟩) (hq''.quiet (.inl hqk) n)
        | r m=>exact absurd (.inr ⟨h1,h2⟩) (hq''.quiet (.inr ⟨m,hqk⟩) n)
        | a=>simp[hqk]at h3
        | e=>simp[hqk]at h3
  · exact hC ⟨q,hq,hDq,ht⟩
 have bothI : ∀q∈L₁,bothD D r.i q.i=D q.i:=fun q hq=>by
  simp only[bothD]
  cases hb:Nat.beq q.i r.i with
  | true=>exact absurd (Nat.eq_of_beq_eq_true hb) (ne₁ q hq)
  | false=>simp
 have bothJ : ∀q∈L₂,bothD D r.i q.i=D q.i:=fun q hq=>by
  simp only[bothD]
  cases hb:Nat.beq q.i r.i with
  | true=>exact absurd (Nat.eq_of_beq_eq_true hb) (ne₂ q hq)
  | false=>simp
 have bothR:bothD D r.i r.i=true:=by simp[bothD]
 have freeR : ∀n,r.next≤n→n<r.out.next→ρ n=none:=hJ.free r (by simp) hnot
 have tmpB : ∀t,TDL (bothD D r.i) t (L₁++r::L₂) (T₀.val t)=if r.o.dst=some t then r.out.v else TDL D t (L₁++r::L₂) (T₀.val t):=fun t=>by
  rw[TDL_append,TDL_append]
  simp only[TDL]
  rw[bothR,TDL_congr (L:=L₁) fun q hq _=>bothI q hq,TDL_congr (L:=L₂) fun q hq _=>bothJ q hq]
  by_cases hd:r.o.dst=some t
  · rw[if_pos ⟨rfl,hd⟩,if_pos hd]
    refine TDL_none fun q hq hDq hdst=> ?_
    rcases ap₂ q hq with hmem | ⟨h1, -⟩
    · exact not₂ q hq hDq hmem
    · simp only[tmpApart,hd,Bool.and_eq_true,Bool.not_eq_true',beq_eq_false_iff_ne]at h1
      exact h1.1.2 hdst
  · rw[if_neg (fun h=>hd h.2),if_neg hd,if_neg (fun h=>hd h.2)]
 have trB : ∀ {ρ':Ren} {v':Value},Sub ρ ρ'→VR ρ' r.out.v v'→TR ρ' nt (fun t=>TDL (bothD D r.i) t (L₁++r::L₂) (T₀.val t)) (a.put r.o.dst v'):=fun {ρ' v'} hs hv=>by
  have e:(fun t=>TDL (bothD D r.i) t (L₁++r::L₂) (T₀.val t))=fun t=>if r.o.dst=some t then r.out.v else TDL D t (L₁++r::L₂) (T₀.val t):=by funext t;exact tmpB t
  rw[e]
  cases hd:r.o.dst with
  | none=>simpa[Act.put]using hJ.tr.mono hs
  | some d =>
     have:=(hJ.tr.mono hs).put hv (kr.dst d hd).1
     have e2:(fun t=>if some d=some t then r.out.v else TDL D t (L₁++r::L₂) (T₀.val t))=fun t=>if t=d then r.out.v else TDL D t (L₁++r::L₂) (T₀.val t):=by
      funext t;simp only[Option.some.injEq,eq_comm]
     rw[e2];exact this
 have drB : ∀ {ρ':Ren} {v':Value},Sub ρ ρ'→DR ρ' df (a.put r.o.dst v').defers:=fun {ρ' v'} hs=>by
  cases r.o.dst<;>exact hJ.dr.mono hs
 have freeB : ∀ {ρ':Ren},(∀n,¬(r.next≤n∧n<r.out.next)→ρ' n=ρ n)→∀q∈L₁++r::L₂,bothD D r.i q.i=false→∀n,q.next≤n→n<q.out.next→ρ' n=none:=fun {ρ'} hr q hq hDq n h1 h2=>by
  have hne:D q.i=false:=by simp only[bothD,Bool.or_eq_false_iff]at hDq;exact hDq.1
  rw[hr n,hJ.free q hq hne n h1 h2]
  rintro⟨h3,h4⟩
  rcases List.mem_append.1 hq with hq | hq
  · have:=(le₁.2 q hq).2;omega
  · cases hq with
    | head=>rw[bothR]at hDq;cases hDq
    | tail _ hq=>have:=(le₃.2 q hq).1;omega
 have still:(∀n,¬touch r n)→∀v',VR ρ r.out.v v'→∃ρ',J nt (L₁++r::L₂) T₀ df H₀ n₀ ρ₀ w₀ (bothD D r.i) ρ' (a.put r.o.dst v') w:=fun hq v' hv=>by
  have sub:Sub ρ ρ:=fun _ _ h=>h
  have eH:(fun n=>HDL (bothD D r.i) n (L₁++r::L₂) (H₀.get n))=fun n=>HDL D n (L₁++r::L₂) (H₀.get n):=by
   funext n
   refine HDL_congr fun q hqm ht=> ?_
   rcases List.mem_append.1 hqm with h | h
   · exact bothI q h
   · cases h with
     | head=>exact absurd ht (hq n)
     | tail _ h=>exact bothJ q h
  have mem : ∀q∈L₁++r::L₂,(q=r)∨bothD D r.i q.i=D q.i:=fun q hqm=>by
   rcases List.mem_append.1 hqm with h | h
   · exact .inr (bothI q h)
   · cases h with
     | head=>exact .inl rfl
     | tail _ h=>exact .inr (bothJ q h)
  have eC:(fun n=>∃q∈L₁++r::L₂,bothD D r.i q.i=true∧q.next≤n∧n<q.out.next)=fun n=>∃q∈L₁++r::L₂,D q.i=true∧q.next≤n∧n<q.out.next:=by
   funext n;apply propext
   constructor
   · rintro⟨q,hqm,h1,h2⟩
     rcases mem q hqm with rfl | h
     · exact absurd (.inr h2) (hq n)
     · exact⟨q,hqm,h▸h1,h2⟩
   · rintro⟨q,hqm,h1,h2⟩
     rcases mem q hqm with rfl | h
     · exact absurd (.inr h2) (hq n)
     · exact⟨q,hqm,h▸h1,h2⟩
  have eD:(fun n=>n<n₀∧∃q∈L₁++r::L₂,bothD D r.i q.i=true∧n∈q.out.dirty)=fun n=>n<n₀∧∃q∈L₁++r::L₂,D q.i=true∧n∈q.out.dirty:=by
   funext n;apply propext
   constructor
   · rintro⟨h0,q,hqm,h1,h2⟩
     rcases mem q hqm with rfl | h
     · exact absurd (.inl h2) (hq n)
     · exact⟨h0,q,hqm,h▸h1,h2⟩
   · rintro⟨h0,q,hqm,h1,h2⟩
     rcases mem q hqm with rfl | h
     · exact absurd (.inl h2) (hq n)
     · exact⟨h0,q,hqm,h▸h1,h2⟩
  refine⟨ρ,trB sub hv,drB (v':=v') sub,?_,?_,freeB fun _ _=>rfl⟩
  · rw[eH];exact hJ.rel
  · rw[eH,eC,eD];exact hJ.post
 have moved:(r.kd = .a∨r.kd = .e)→∀(G:Nat→Option VObj) ρ' v' w',(∀n,(G n).isSome→G n=HDL D n (L₁++r::L₂) (H₀.get n))→VR ρ' r.out.v v' →
  Post ρ G w (fun n=>r.next≤n∧n<r.out.next) (· ∈ r.out.dirty) ρ' r.out.H.get w' →
  ∃ρ',J nt (L₁++r::L₂) T₀ df H₀ n₀ ρ₀ w₀ (bothD D r.i) ρ' (a.put r.o.dst v') w':=fun hk G ρ' v' w' hG hv hp=>by
  have hkd : ∀n,n∈r.out.dirty→r.kd = .e:=fun n hd=>by
   rcases hk with hk | hk
   · rw[(kr.alloc hk).1]at hd;cases hd
   · exact hk
  obtain⟨rel',post'⟩:=Post.andThen hJ.post restD hJ.rel hG hp fun n hn=>hfree₀ n (by have:=le₁.1;omega) (by have:=le₃.1;omega)
  have eH : ∀inst : ∀n,Decidable ((r.next≤n∧n<r.out.next)∨n∈r.out.dirty),(fun n=>@ite _ ((r.next≤n∧n<r.out.next)∨n∈r.out.dirty) (inst n) (r.out.H.get n) (HDL D n (L₁++r::L₂) (H₀.get n))) =
   fun n=>HDL (bothD D r.i) n (L₁++r::L₂) (H₀.get n):=by
   intro inst
   funext n
   rw[HDL_append,HDL_append]
   simp only[HDL]
   rw[HDL_congr (D:=bothD D r.i) (L:=L₁) fun q hq _=>bothI q hq,HDL_congr (D:=bothD D r.i) (L:=L₂) fun q hq _=>bothJ q hq]
   by_cases ht:touch r n
   · rw[if_pos (Or.symm ht),if_pos ⟨bothR,ht⟩]
     symm
     refine HDL_none fun q hq hDq htq=> ?_
     have hl:=late₂ q hq hDq n
     rcases ht with ht | ht
     · have hlt:=kr.dirty n ht
       exact(hl (Nat.lt_of_lt_of_le hlt kr.le)).1 (hkd n ht) hlt htq
     · rcases hk with hk | hk
       · have:=(hl ht.2).2.2 hk htq;omega
       · exact(hl ht.2).2.1 hk ht.1 htq
   · rw[if_neg (fun h=>ht (Or.symm h)),if_neg (fun h=>ht h.2),if_neg (fun h=>ht h.2)]
  have eC:(fun n=>(∃q∈L₁++r::L₂,D q.i=true∧q.next≤n∧n<q.out.next)∨(r.next≤n∧n<r.out.next)) =
   fun n=>∃q∈L₁++r::L₂,bothD D r.i q.i=true∧q.next≤n∧n<q.out.next:=by
   funext n;apply propext
   constructor
   · rintro(⟨q,hqm,h1,h2⟩ | h)
     · exact⟨q,hqm,by simp[bothD,h1],h2⟩
     · exact⟨r,by simp,bothR,h⟩
   · rintro⟨q,hqm,h1,h2⟩
     rcases List.mem_append.1 hqm with h | h
     · exact .inl ⟨q,hqm,bothI q h▸h1,h2⟩
     · cases h with
       | head=>exact .inr h2
       | tail _ h=>exact .inl ⟨q,hqm,bothJ q h▸h1,h2⟩
  have eD:(fun n=>(n<n₀∧∃q∈L₁++r::L₂,D q.i=true∧n∈q.out.dirty)∨(n∈r.out.dirty∧¬ ∃q∈L₁++r::L₂,D q.i=true∧q.next≤n∧n<q.out.next)) =
   fun n=>n<n₀∧∃q∈L₁++r::L₂,bothD D r.i q.i=true∧n∈q.out.dirty:=by
   funext n;apply propext
   constructor
   · rintro(⟨h0,q,hqm,h1,h2⟩ | ⟨hd,hC⟩)
     · exact⟨h0,q,hqm,by simp[bothD,h1],h2⟩
     · refine⟨?_,r,by simp,bothR,hd⟩
       rcases Nat.lt_or_ge n n₀ with h | h
       · exact h
       · obtain⟨q,hq,h1,h2⟩:=run₁.tile n h (by rw[←hn];exact kr.dirty n hd)
         exact absurd ⟨q,by simp[hq],early₁ (hkd n hd) q hq n (.inr ⟨h1,h2⟩),h1,h2⟩ hC
   · rintro⟨h0,q,hqm,h1,h2⟩
     rcases List.mem_append.1 hqm with h | h
     · exact .inl ⟨h0,q,hqm,bothI q h▸h1,h2⟩
     · cases h with
       | head =>
          refine .inr ⟨h2,?_⟩
          rintro⟨q,hqm, -,h3, -⟩
          have:=((hrun.le hcr).2 q hqm).1
          omega
       | tail _ h=>exact .inl ⟨h0,q,hqm,bothJ q h▸h1,h2⟩
  have rel'':=Eq.mp (congrArg (fun X=>Rel ρ' X w') (eH _)) rel'
  have post'':=Eq.mp (congrArg (fun X=>Post ρ₀ H₀.get w₀ _ _ ρ' X w') (eH _)) post'
  rw[eC,eD]at post''
  exact⟨ρ',trB hp.sub hv,drB (v':=v') hp.sub,rel'',post'',freeB fun n hn=>hp.ren n hn⟩
 unfold wpOpIn
 simp only[kr.op]
 rw[hwant]
 cases hran:r.ran with
 | false =>
    obtain⟨hw0,hout,hkd⟩:=kr.not hran
    rw[hw0,if_neg (by simp)]
    exact⟨fun _ _=>trivial,still (kr.quiet (.inl hkd)) undef (by rw[hout];exact undef_VR)⟩
 | true =>
    obtain⟨hw1,hdef,his⟩:=kr.ran hran
    rw[hw1,if_pos rfl]
    cases hk:r.kd with
    | p =>
       rw[hk]at his
       obtain⟨-, -, -,v',h1,h2⟩:=his.still hco.1 (.inl rfl) hg' hE (fun n hn=>by cases hn) (w:=w)
       exact wpIn_value hdef h2 (still (kr.quiet (.inl hk)) v' h1)
    | r n =>
       rw[hk]at his
       obtain⟨-, -, -,v',h1,h2⟩:=his.still hco.1 (.inr ⟨n,rfl⟩) hg' hE (fun m hm ob hob=>by
        injection hm with hm
        subst hm
        exact hJ.rel.hr _ ob (by rw[readEq _ hk (by simp[hob])];exact hob)) (w:=w)
       exact wpIn_value hdef h2 (still (kr.quiet (.inr ⟨n,hk⟩)) v' h1)
    | a =>
       rw[hk]at his
       obtain⟨v',w',ρ',h1,h2,h3⟩:=his.alloc' (G:=fun _=>none) hco.1 hg' hE hJ.rel.lt freeR
       exact wpIn_value hdef h3 (moved (.inl hk) _ ρ' v' w' (fun n hn=>by cases hn) h1 h2)
    | e =>
       exact his.all hco hdef hE (hJ.rel.sub fun n hn=>allEq hk n hn) bd hg' freeR fun v' w' ρ' hg=>moved (.inr hk) _ ρ' v' w' (fun n hn=>allEq hk n hn) hg.val hg.post
end
end Go.Eng
set_option linter.unusedSectionVars false
namespace Go.Eng
open Go
section
variable [Base] {P:Program} {call:Caller} {cf:Cfg} {nt:Nat} {ops:Array Oper}
def nodupB:List Nat→Bool
 | []=>true
 | x::l=> !l.contains x && nodupB l
theorem nodupB_ok : ∀ {l:List Nat},nodupB l=true→l.Nodup
 | [],_=>List.nodup_nil
 | x::l,h=>by
    simp only[nodupB,Bool.and_eq_true,Bool.not_eq_true',List.contains_eq_mem,decide_eq_false_iff_not]at h
    exact List.nodup_cons.2 ⟨h.1,nodupB_ok h.2⟩
theorem count_set : ∀(l:List Bool) (i:Nat),l[i]? = some false→(l.set i true).count false+1=l.count false
 | [],i,h=>by simp at h
 | b::l,0,h=>by simp at h;subst h;simp
 | b::l,i+1,h=>by
    have:=count_set l i (by simpa using h)
    simp only[List.set_cons_succ,List.count_cons]
    omega
theorem count_zero : ∀(l:List Bool),l.count false=0→∀(i:Nat) (b:Bool),l[i]? = some b→b=true
 | [],_,i,b,hb=>by simp at hb
 | x::l,h,0,b,hb=>by simp at hb;subst hb;cases x<;>simp_all
 | x::l,h,i+1,b,hb=>by
    simp only[List.count_cons]at h
    exact count_zero l (by omega) i b (by simpa using hb)
def Dof (listed:Array Bool):Nat→Bool:=fun i=>listed.getD i false
theorem Dof_set {listed:Array Bool}{i:Nat}(hi:i<listed.size):Dof (listed.setIfInBounds i true)=bothD (Dof listed) i:=by
 funext j
 simp only[Dof,bothD,Array.getD_eq_getD_getElem?]
 by_cases e:j=i
 · subst e
   simp[hi]
 · rw[Array.getElem?_setIfInBounds_ne (Ne.symm e)]
   cases hb:Nat.beq j i with
   | true=>exact absurd (Nat.eq_of_beq_eq_true hb) e
   | false=>simp
theorem draw_all (hcr:CallRest call)(hco:CallOk P cf call){L:List Rc}{T₀ T₁:Tr Value}{H₀ H₁:Tr VObj}{n₀ n₁:Nat}{df:List Df}{ρ₀:Ren}{w₀:World}
 (hrun:Run P call cf nt ops T₀ H₀ n₀ L T₁ H₁ n₁) (hap:L.Pairwise (Apart ops)) (hanc : ∀q∈L,AncIn ops q) (hto:Topo L) (hnd:(L.map (·.i)).Nodup) (hall : ∀i,i<ops.size→∃r∈L,r.i=i)
 (hb : ∀n,(H₀.get n).isSome→n<n₀) (hg : ∀g,g<cf.nb→∃k,ρ₀ g=some (g,k)) (hfree₀ : ∀n,n₀≤n→n<n₁→ρ₀ n=none) {ro:Option Nat} {Q:Exit→Act→World→Prop}
 (hQ : ∀ρ a w,J nt L T₀ df H₀ n₀ ρ₀ w₀ (fun i=>decide (i<ops.size)) ρ a w→Q .normal a w) :
 ∀(fuel:Nat) (listed:Array Bool) (ρ:Ren) (a:Act) (w:World),listed.size=ops.size→listed.toList.count false≤fuel→Closed ops (Dof listed)→J nt L T₀ df H₀ n₀ ρ₀ w₀ (Dof listed) ρ a w →
  wpAnyIn (FR ro) 0 P .any ops Q fuel listed a w:=by
 intro fuel
 induction fuel with
 | zero =>
    intro listed ρ a w hs hc hcl hJ
    have htrue : ∀i,i<ops.size→listed[i]? = some true:=fun i hi=>by
     have hlt:i<listed.size:=by omega
     have h1:listed[i]? = some listed[i]:=Array.getElem?_eq_getElem hlt
     have h2:=count_zero listed.toList (by omega) i listed[i] (by simp)
     rw[h1,h2]
    refine⟨?_,hQ ρ a w ?_⟩
    · cases hr:Region.ready .any ops listed with
      | nil=>rfl
      | cons i l =>
         have hm:i∈Region.ready .any ops listed:=by rw[hr];simp
         obtain⟨h1,o,ho, -⟩:=mem_ready.1 hm
         have hi:=(Array.getElem?_eq_some_iff.1 ho).1
         simp[Array.getD_eq_getD_getElem?,htrue i hi]at h1
    · have:Dof listed=fun i=>decide (i<ops.size):=by
       funext i
       by_cases hi:i<ops.size
       · simp[Dof,Array.getD_eq_getD_getElem?,htrue i hi,hi]
       · simp[Dof,Array.getD_eq_getD_getElem?,Array.getElem?_eq_none (show listed.size≤i by omega),hi]
      rw[←this];exact hJ
 | succ fuel ih =>
    intro listed ρ a w hs hc hcl hJ
    refine⟨fun hr=>hQ ρ a w ?_,fun i hi=> ?_⟩
    · have hlisted : ∀k M₁ M₂,M₁.length=k→L=M₁++M₂→∀r∈M₁,Dof listed r.i=true:=by
       intro k
       induction k with
       | zero=>intro M₁ M₂ hk _ r hr;rw[List.eq_nil_of_length_eq_zero hk]at hr;cases hr
       | succ k ihM =>
          intro M₁ M₂ hk hM q hq
          rcases List.eq_nil_or_concat M₁ with rfl | ⟨M₁,r,rfl⟩
          · cases hq
          rw[List.concat_eq_append]at hM hk hq
          have ih':=ihM M₁ (r::M₂) (by simpa using hk) (by rw[hM];simp)
          rcases List.mem_append.1 hq with hq | hq
          · exact ih' q hq
          · simp only[List.mem_singleton]at hq
            subst hq
            cases hD:Dof listed q.i with
            | true=>rfl
            | false =>
               exfalso
               have hqL:q∈L:=by rw[hM];simp
               have hok:=hrun.ok hcr q hqL
               have hlt:=(Array.getElem?_eq_some_iff.1 hok.op).1
               have:q.i∈Region.ready .any ops listed:=mem_ready.2 ⟨by
                have hl:q.i<listed.size:=by omega
                simp only[Dof,Array.getD_eq_getD_getElem?,Array.getElem?_eq_getElem hl,Option.getD_some]at hD ⊢
                exact hD,q.o,hok.op,fun e he hbd=>by
                obtain⟨q',hq',hqe⟩:=hto M₁ q M₂ (by rw[hM];simp) e he hbd
                have:=ih' q' hq'
                rw[hqe]at this
                exact this⟩
               rw[hr]at this;cases this
      have:Dof listed=fun i=>decide (i<ops.size):=by
       funext i
       by_cases hi:i<ops.size
       · obtain⟨r,hrL,rfl⟩:=hall i hi
         simp[hlisted _ L [] rfl (by simp) r hrL,hi]
       · simp[Dof,Array.getD_eq_getD_getElem?,Array.getElem?_eq_none (show listed.size≤i by omega),hi]
      rw[←this];exact hJ
    · obtain⟨h1,o,ho,h3⟩:=mem_ready.1 hi
      have hlt:=(Array.getElem?_eq_some_iff.1 ho).1
      have hl:i<listed.size:=by omega
      have hli:listed[i]? = some false:=by
       simp only[Array.getD_eq_getD_getElem?,Array.getElem?_eq_getElem hl,Option.getD_some]at h1
       rw[Array.getElem?_eq_getElem hl,h1]
      obtain⟨r,hrL,rfl⟩:=hall i hlt
      obtain⟨L₁,L₂,rfl⟩:=List.append_of_mem hrL
      have hok:=hrun.ok hcr r hrL
      have hoo:o=r.o:=by have:=hok.op;rw[ho]at this;injection this
      subst hoo
      have hready : ∀e∈r.o.after,Region.binds .any e=true→Dof listed e.on=true:=fun e he hbd=>h3 e he hbd
      have hnot:Dof listed r.i=false:=by simp[Dof,Array.getD_eq_getD_getElem?,hli]
      refine wpOpIn_mono ?_ (draw_step (Q:=Q) (ro:=ro) hcr hco hrun hap hanc hnd hb hg hfree₀ hcl hready hnot hJ)
      rintro a' w' ⟨ρ',hJ'⟩
      refine ih (listed.setIfInBounds r.i true) ρ' a' w' (by simpa using hs) ?_ ?_ (by rw[Dof_set hl];exact hJ')
      · have:=count_set listed.toList r.i (by simpa using hli)
        simp only[Array.toList_setIfInBounds]
        omega
      · rw[Dof_set hl]
        intro j o' ho' hj e he hbd
        simp only[bothD,Bool.or_eq_true]at hj ⊢
        rcases hj with hj | hj
        · exact .inl (hcl j o' ho' hj e he hbd)
        · have:=Nat.eq_of_beq_eq_true hj
          subst this
          rw[ho]at ho'
          injection ho' with ho'
          subst ho'
          exact .inl (hready e he hbd)
end
end Go.Eng
set_option linter.unusedSectionVars false
namespace Go.Eng
open Go
section
variable (P:Program)
def addDirty (n0:Nat)(new old:List Nat):List Nat:=new.foldl (fun acc d=>if Nat.blt d n0 && !acc.contains d then d::acc else acc) old
noncomputable def addOut (n0:Nat) (st:St) (T:Tr Value) (out:Out):St:=⟨T,st.df,out.H,out.next,addDirty n0 out.dirty st.dirty⟩
noncomputable def evDefer (cf:Cfg) (T:Tr Value) (o:Oper):Option Df :=
 match o.op with
 | .defer c =>
    match c.callee with
    | .value f =>
       if o.op.operands.toList.all (okOperand cf.nb) && o.guard.isNone && o.dst.isNone then
        match env T f with
        | .func (.func g) ⟨first⟩ ⟨cap⟩=>some (.fn g (first++c.args.toList.map (env T)) cap)
        | _=>none
       else none
    | _=>none
 | _=>none
noncomputable def evSeq (call:Caller) (cf:Cfg) (nt n0:Nat) (ro:Option Nat) (ops:Array Oper):List Nat→St→Option St
 | [],st=>some st
 | i::rest,st =>
    match ops[i]? with
    | none=>none
    | some o =>
       match evOne P call cf nt ops st.T st.H st.next o with
       | some (out,_,_)=>evSeq call cf nt n0 ro ops rest (addOut n0 st (putT st.T o.dst out.v) out)
       | none =>
          match ro,evDefer cf st.T o with
          | none,some d=>evSeq call cf nt n0 ro ops rest { st with df:=d::st.df}
          | _,_=>none
noncomputable def evRegion (call:Caller) (cf:Cfg) (nt n0:Nat) (ro:Option Nat) (ops:Array Oper) (draw:Bool) (st:St):Option St :=
 if draw then
  if nodupB (late ops) && (List.range ops.size).all (late ops).contains then
   match stat ops (late ops) []with
   | some L =>
      match evFast P call cf nt ops L st.T st.H st.next [] []with
      | some (T',H',n',dirty)=>some (addOut n0 st T' ⟨undef,H',n',dirty.filter fun d=>Nat.blt d st.next⟩)
      | none=>none
   | none=>none
  else none
 else evSeq P call cf nt n0 ro ops (List.range ops.size) st
end
structure SR [Base] (n0:Nat) (H0:Tr VObj) (ρ0:Ren) (w0:World) (nt:Nat) (ρ:Ren) (st:St) (a:Act) (w:World):Prop where
 tr:TR ρ nt st.T.val a
 dr:DR ρ st.df a.defers
 rel:Rel ρ st.H.get w
 post:Post ρ0 H0.get w0 (fun n=>n0≤n∧n<st.next) (· ∈ st.dirty) ρ st.H.get w
structure SS (n0:Nat) (H0:Tr VObj) (st:St):Prop where
 rest : ∀n,¬(n0≤n∧n<st.next)→n∉st.dirty→st.H.get n=H0.get n
 le:n0≤st.next
 old : ∀d∈st.dirty,d<n0
section
variable [Base] {P:Program} {call:Caller} {cf:Cfg} {nt n0:Nat} {H0:Tr VObj} {ρ0:Ren} {w0:World}
theorem mem_addDirty {n0 d:Nat} : ∀ {new old:List Nat},d∈addDirty n0 new old↔d∈old∨(d∈new∧d<n0)
 | [],old=>by simp[addDirty]
 | x::new,old=>by
    have e:addDirty n0 (x::new) old=addDirty n0 new (if Nat.blt x n0 && !old.contains x then x::old else old):=rfl
    rw[e,mem_addDirty]
    by_cases h:(Nat.blt x n0 && !old.contains x)=true
    · rw[if_pos h]
      simp only[Bool.and_eq_true,Nat.blt_eq,Bool.not_eq_true',List.contains_eq_mem,decide_eq_false_iff_not]at h
      simp only[List.mem_cons]
      constructor
      · rintro((rfl | h1) | ⟨h1,h2⟩)
        · exact .inr ⟨.inl rfl,h.1⟩
        · exact .inl h1
        · exact .inr ⟨.inr h1,h2⟩
      · rintro(h1 | ⟨rfl | h1,h2⟩)
        · exact .inl (.inr h1)
        · exact .inl (.inl rfl)
        · exact .inr ⟨h1,h2⟩
    · rw[if_neg h]
      simp only[Bool.and_eq_true,Nat.blt_eq,Bool.not_eq_true',List.contains_eq_mem,decide_eq_false_iff_not]at h
      simp only[List.mem_cons]
      constructor
      · rintro(h1 | ⟨h1,h2⟩)
        · exact .inl h1
        · exact .inr ⟨.inr h1,h2⟩
      · rintro(h1 | ⟨rfl | h1,h2⟩)
        · exact .inl h1
        · refine .inl (Classical.byContradiction fun hc=>h ⟨h2,hc⟩)
        · exact .inr ⟨h1,h2⟩
theorem SS.step {st:St}(h:SS n0 H0 st){out:Out}{T:Tr Value}(hr:Rest st.H st.next out)(hle:st.next≤out.next)(hd : ∀d∈out.dirty,d<st.next):SS n0 H0 (addOut n0 st T out) where
 rest n hn hnd:=by
  simp only[addOut]at hn hnd ⊢
  rw[mem_addDirty]at hnd
  have hle0:=h.le
  by_cases h1:n0≤n
  · have h2: ¬n<out.next:=fun h2=>hn ⟨h1,h2⟩
    rw[hr n (by omega) (fun hm=>by have:=hd n hm;omega)]
    exact h.rest n (by omega) fun hm=>hnd (.inl hm)
  · rw[hr n (by omega) (fun hm=>hnd (.inr ⟨hm,by omega⟩))]
    exact h.rest n (by omega) fun hm=>hnd (.inl hm)
 le:=Nat.le_trans h.le hle
 old d hdm:=by
  simp only[addOut,mem_addDirty]at hdm
  rcases hdm with h1 | h1
  · exact h.old d h1
  · exact h1.2
theorem SS.bound {st:St}(h:SS n0 H0 st)(hb0 : ∀n,(H0.get n).isSome→n<n0) : ∀n,(st.H.get n).isSome→n<st.next:=fun n hn=>by
 have hle:=h.le
 by_cases h1:n0≤n∧n<st.next
 · exact h1.2
 · by_cases h2:n∈st.dirty
   · have:=h.old n h2;omega
   · rw[h.rest n h1 h2]at hn
     have:=hb0 n hn
     omega
theorem SR.step {st:St}{ρ ρ':Ren}{a a':Act}{w w':World}{out:Out}{v':Value}{T:Tr Value}(h:SR n0 H0 ρ0 w0 nt ρ st a w)(hs:SS n0 H0 st)(hd : ∀d∈out.dirty,d<st.next)
 (g:Good ρ st.H st.next w out v' ρ' w') (hfree : ∀n,st.next≤n→n<out.next→ρ0 n=none) (ht:TR ρ' nt T.val a') (hdf:a'.defers=a.defers) :
 SR n0 H0 ρ0 w0 nt ρ' (addOut n0 st T out) a' w':=by
 have hle:=hs.le
 have hgle:=g.le
 obtain⟨rel',post'⟩:=Post.andThen h.post (fun n h1 h2=>hs.rest n h1 h2) h.rel (fun _ _=>rfl) g.post fun n hn=>hfree n hn.1 hn.2
 have eH : ∀inst : ∀n,Decidable ((st.next≤n∧n<out.next)∨n∈out.dirty),(fun n=>@ite _ ((st.next≤n∧n<out.next)∨n∈out.dirty) (inst n) (out.H.get n) (st.H.get n))=out.H.get:=by
  intro inst;funext n
  by_cases hc:(st.next≤n∧n<out.next)∨n∈out.dirty
  · rw[if_pos hc]
  · rw[if_neg hc,g.rest n (fun h=>hc (.inl h)) (fun h=>hc (.inr h))]
 have rel'':=Eq.mp (congrArg (fun X=>Rel ρ' X w') (eH _)) rel'
 have post'':=Eq.mp (congrArg (fun X=>Post ρ0 H0.get w0 _ _ ρ' X w') (eH _)) post'
 have eC:(fun n=>(n0≤n∧n<st.next)∨(st.next≤n∧n<out.next))=fun n=>n0≤n∧n<out.next:=by funext n;apply propext;omega
 have eD:(fun n=>n∈st.dirty∨(n∈out.dirty∧¬(n0≤n∧n<st.next)))=(· ∈ addDirty n0 out.dirty st.dirty):=by
  funext n;apply propext
  rw[mem_addDirty]
  constructor
  · rintro(h1 | ⟨h1,h2⟩)
    · exact .inl h1
    · have:=hd n h1;exact .inr ⟨h1,by omega⟩
  · rintro(h1 | ⟨h1,h2⟩)
    · exact .inl h1
    · exact .inr ⟨h1,by omega⟩
 rw[eC,eD]at post''
 exact⟨ht,by rw[hdf];exact h.dr.mono g.post.sub,rel'',post''⟩
theorem put_defers (a:Act)(dst:Option Nat)(v:Value):(a.put dst v).defers=a.defers:=by cases dst<;>rfl
theorem TR.putT {ρ:Ren}{T:Tr Value}{a:Act}(h:TR ρ nt T.val a){dst:Option Nat}{v v':Value}(hd : ∀d,dst=some d→d<nt∧d<1099511627775)(hv:VR ρ v v'):TR ρ nt (Eng.putT T dst v).val (a.put dst v'):=by
 cases dst with
 | none=>exact h
 | some d =>
    have:=h.put hv (hd d rfl).1
    refine⟨this.size,fun t=> ?_⟩
    have h2:=this.val t
    rw[putT_val fun d' hd'=>(hd d' hd').2]
    simp only[Option.some.injEq]
    by_cases e:t=d
    · subst e;simp only[if_true]at h2 ⊢;exact h2
    · rw[if_neg e]at h2;rw[if_neg (Ne.symm e)];exact h2
theorem evDefer_ok {ρ:Ren}{T:Tr Value}{a:Act}{o:Oper}{d:Df}(h:evDefer cf T o=some d)(htr:TR ρ nt T.val a)(hg : ∀g,g<cf.nb→∃k,ρ g=some (g,k)) :
 o.guard=none∧o.dst=none∧∃d' l',(∀l,DR ρ l l'→DR ρ (d::l) (d'::l'))∧(∀l l',DR ρ l l'→DR ρ (d::l) (d'::l'))∧∀w,(execOp a.eval o).run P w = .ok (.defer d') w:=by
 obtain⟨dst,op,ty,pos,after,guard⟩:=o
 unfold evDefer at h
 cases op with
 | defer c =>
    obtain⟨callee,args,ats⟩:=c
    cases callee with
    | value f =>
       simp only at h
       split at h
       · rename_i hc
         simp only[Bool.and_eq_true,List.all_eq_true,Option.isNone_iff_eq_none]at hc
         obtain⟨⟨hops,hgd⟩,hdst⟩:=hc
         have hE : ∀x∈(Op.defer ⟨.value f,args,ats⟩).operands,VR ρ (env T x) (a.eval x):=fun x hx=>env_ok htr hg (hops x (by simpa using hx))
         have hf:=hE f (by simp[Op.operands,Call.operands])
         have hargs:VRs ρ (args.toList.map (env T)) (args.toList.map a.eval):=VRs.mapV _ fun y hy=>hE y (by simp[Op.operands,Call.operands];exact .inr (by simpa using hy))
         split at h
         · rename_i g first cap hv
           rw[hv]at hf
           simp only[Option.some.injEq]at h;subst h
           obtain⟨first',cap',h1,h2,he⟩:=hf.func_inv
           refine⟨hgd,hdst,{ target:= .fn (.func g) ⟨cap'⟩,args:=⟨first'++args.toList.map a.eval⟩},[],fun l hl=> .fn (h1.append hargs) h2 hl,fun l l' hl=> .fn (h1.append hargs) h2 hl,fun w=> ?_⟩
           have e:((⟨first'⟩:Array Value)++args.map a.eval)=⟨first'++args.toList.map a.eval⟩:=by rw[←Array.toList_inj];simp
           simp[execOp,resolve,he,Deferred.ofValue,e]
         · cases h
       · cases h
    | _=>simp at h
 | _=>simp at h
theorem evSeq_ss (hcr:CallRest call){ro:Option Nat}{ops:Array Oper} : ∀(l:List Nat) (st st':St),evSeq P call cf nt n0 ro ops l st=some st'→SS n0 H0 st→SS n0 H0 st'∧st.next≤st'.next:=by
 intro l
 induction l with
 | nil=>intro st st' h hs;simp only[evSeq,Option.some.injEq]at h;subst h;exact⟨hs,Nat.le_refl _⟩
 | cons i l ih =>
    intro st st' h hs
    simp only[evSeq]at h
    cases ho:ops[i]? with
    | none=>simp[ho]at h
    | some o =>
       simp only[ho]at h
       cases he:evOne P call cf nt ops st.T st.H st.next o with
       | some q =>
          obtain⟨out,kd,ran⟩:=q
          simp only[he]at h
          have hk:RcOk P call cf nt ops ⟨i,[],o,st.T,st.H,st.next,out,kd,ran⟩:=rcOk hcr ho he
          obtain⟨h1,h2⟩:=ih _ st' h (hs.step hk.rest hk.le hk.dirty)
          exact⟨h1,Nat.le_trans hk.le h2⟩
       | none =>
          simp only[he]at h
          split at h
          · obtain⟨h1,h2⟩:=ih _ st' h ⟨hs.rest,hs.le,hs.old⟩
            exact⟨h1,h2⟩
          · cases h
theorem evSeq_ok (hb0 : ∀n,(H0.get n).isSome→n<n0)(hcr:CallRest call)(hco:CallOk P cf call){ro ro':Option Nat}(hro:ro=none→ro'=none){ops:Array Oper}{B:Nat}(hg : ∀g,g<cf.nb→∃k,ρ0 g=some (g,k))(hfree : ∀n,n0≤n→n<B→ρ0 n=none) :
 ∀(l:List Nat) (st st':St),evSeq P call cf nt n0 ro ops l st=some st'→SS n0 H0 st→st'.next≤B→∀(ρ:Ren) (a:Act) (w:World) (Q:Exit→Act→World→Prop),SR n0 H0 ρ0 w0 nt ρ st a w →
  (∀ρ' a' w',SR n0 H0 ρ0 w0 nt ρ' st' a' w'→Q .normal a' w')→wpOpsIn (FR ro') 0 P ops Q l a w:=by
  intro l
  induction l with
  | nil =>
     intro st st' h hs hB ρ a w Q hR hQ
     simp only[evSeq,Option.some.injEq]at h;subst h
     exact hQ ρ a w hR
  | cons i l ih =>
     intro st st' h hs hB ρ a w Q hR hQ
     simp only[evSeq]at h
     cases ho:ops[i]? with
     | none=>simp[ho]at h
     | some o =>
        simp only[ho]at h
        have hg' : ∀g,g<cf.nb→∃k,ρ g=some (g,k):=fun g hgn=>by
         obtain⟨k,hk⟩:=hg g hgn
         exact⟨k,hR.post.sub _ _ hk⟩
        cases he:evOne P call cf nt ops st.T st.H st.next o with
        | some q =>
           obtain⟨out,kd,ran⟩:=q
           simp only[he]at h
           have hk:RcOk P call cf nt ops ⟨i,[],o,st.T,st.H,st.next,out,kd,ran⟩:=rcOk hcr ho he
           have hss:=hs.step (T:=putT st.T o.dst out.v) hk.rest hk.le hk.dirty
           have hle:=(evSeq_ss hcr l _ st' h hss).2
           have hnext:out.next≤B:=Nat.le_trans hle hB
           have hn0:=hs.le
           have hfr : ∀n,st.next≤n→n<out.next→ρ n=none:=fun n h1 h2=>by
            rw[hR.post.ren n (by omega)];exact hfree n (by omega) (by omega)
           have hfr0 : ∀n,st.next≤n→n<out.next→ρ0 n=none:=fun n h1 h2=>hfree n (by omega) (by omega)
           have hwant:Region.wanted o (yielded ops a.tmps)=wantV nt ops st.T o:=wanted_eq (ρ:=ρ) hR.tr.size fun d _=>hR.tr.val d
           have hE : ∀x∈o.op.operands,VR ρ (env st.T x) (a.eval x):=fun x hx=>env_ok hR.tr hg' (hk.operands x hx)
           have next : ∀v' w' ρ',Good ρ st.H st.next w out v' ρ' w'→wpOpsIn (FR ro') 0 P ops Q l (a.put o.dst v') w':=fun v' w' ρ' g =>
            ih _ st' h hss hB ρ' _ w' Q (hR.step hs hk.dirty g hfr0 ((hR.tr.mono g.post.sub).putT hk.dst g.val) (put_defers _ _ _)) hQ
           simp only[wpOpsIn,ho]
           rw[hwant]
           cases hran:ran with
           | false =>
              obtain⟨h1,h2,h3⟩:=hk.not hran
              simp only at h1 h2
              rw[h1,if_neg (by simp)]
              refine⟨fun _ _=>trivial,next undef w ρ ?_⟩
              rw[h2]
              exact .still undef_VR hR.rel.lt
           | true =>
              obtain⟨h1,h2,h3⟩:=hk.ran hran
              simp only at h1
              rw[h1,if_pos rfl]
              exact h3.all hco h2 hE hR.rel (hs.bound hb0) hg' hfr next
        | none =>
           simp only[he]at h
           split at h
           · rename_i d hd
             obtain⟨g1,g2,d',l', -,hd2,hd3⟩:=evDefer_ok (P:=P) hd hR.tr hg'
             have:=hro rfl
             subst this
             simp only[wpOpsIn,ho]
             have hwant:Region.wanted o (yielded ops a.tmps)=true:=by simp[Region.wanted,g1]
             rw[hwant,if_pos rfl]
             refine⟨fun _ _=>trivial,?_⟩
             show o.uponIn (FR none) 0 P a _ Q ((o.semAt none a.eval).run P w)
             rw[Oper.semAt_none,hd3 w]
             show wpOpsIn _ _ _ _ _ _ (({ a with defers:=d'::a.defers}:Act).put o.dst undef) w
             rw[g2]
             exact ih _ st' h ⟨hs.rest,hs.le,hs.old⟩ hB ρ _ w Q ⟨⟨hR.tr.size,hR.tr.val⟩,hd2 _ _ hR.dr,hR.rel,hR.post⟩ hQ
           · cases h
end
end Go.Eng
set_option linter.unusedSectionVars false
namespace Go.Eng
open Go
section
variable [Base] {P:Program} {call:Caller} {cf:Cfg} {nt n0:Nat} {H0:Tr VObj} {ρ0:Ren} {w0:World}
theorem evDraw_facts (hcr:CallRest call){ops:Array Oper}{st:St}{T':Tr Value}{H':Tr VObj}{n':Nat}{acc:List Rc}(h:evDraw P call cf nt ops (late ops) st.T st.H st.next []=some (T',H',n',acc)) :
 Run P call cf nt ops st.T st.H st.next acc.reverse T' H' n'∧acc.reverse.Pairwise (Apart ops)∧(∀r∈acc,AncIn ops r)∧Topo acc.reverse∧acc.reverse.map (·.i)=late ops∧st.next≤n' ∧
  Rest st.H st.next ⟨undef,H',n',(acc.flatMap fun r=>r.out.dirty).filter fun d=>Nat.blt d st.next⟩:=by
 obtain⟨h1,h2,h3,h4,h5⟩:=evDraw_run (late ops) st.T st.H st.next [] T' H' n' acc h st.T st.H st.next .nil List.Pairwise.nil (by simp) (by intro L₁ r L₂ he;simp at he)
 refine⟨h1,h2,h3,h4,by simpa using h5,(h1.le hcr).1,fun n hn hnd=> ?_⟩
 simp only at hn hnd
 rw[h1.heap hcr n]
 refine HDL_none fun r hr _ ht=> ?_
 have hk:=h1.ok hcr r hr
 have hl:=(h1.le hcr).2 r hr
 rcases ht with ht | ht
 · by_cases h0:n<st.next
   · refine hnd ?_
     simp only[List.mem_filter,List.mem_flatMap,Nat.blt_eq]
     exact⟨⟨r,by simpa using hr,ht⟩,h0⟩
   · have:=hk.dirty n ht
     have:=hk.le
     omega
 · omega
theorem evRegion_ss (hcr:CallRest call){ro:Option Nat}{ops:Array Oper}{draw:Bool}{st st':St}(h:evRegion P call cf nt n0 ro ops draw st=some st')(hs:SS n0 H0 st):SS n0 H0 st'∧st.next≤st'.next:=by
 unfold evRegion at h
 split at h
 · split at h
   · split at h
     · rename_i L hL
       split at h
       · rename_i T' H' n' dirty hf
         obtain⟨acc,he,rfl⟩:=evFast_draw (late ops) L [] [] _ _ _ _ _ _ _ hL (by simp) hf
         simp only[Option.some.injEq]at h;subst h
         obtain⟨-, -, -, -, -,hle,hrest⟩:=evDraw_facts hcr he
         exact⟨hs.step hrest hle fun d hd=>by simp only[List.mem_filter,Nat.blt_eq]at hd;exact hd.2,hle⟩
       · cases h
     · cases h
   · cases h
 · exact evSeq_ss hcr _ _ _ h hs
theorem evRegion_ok (hb0 : ∀n,(H0.get n).isSome→n<n0)(hcr:CallRest call)(hco:CallOk P cf call)(hm:P.follows .mixedOrders=true){ro ro':Option Nat}(hro:ro=none→ro'=none){ops:Array Oper}{draw:Bool}{id B:Nat}(hg : ∀g,g<cf.nb→∃k,ρ0 g=some (g,k))
 (hfree : ∀n,n0≤n→n<B→ρ0 n=none) {st st':St} (h:evRegion P call cf nt n0 ro ops draw st=some st') (hs:SS n0 H0 st) (hB:st'.next≤B) {ρ:Ren} {a:Act} {w:World} {Q:Exit→Act→World→Prop}
 (hR:SR n0 H0 ρ0 w0 nt ρ st a w) (hQ : ∀ρ' a' w',SR n0 H0 ρ0 w0 nt ρ' st' a' w'→Q .normal a' w'):(Code.region id ops draw).wpIn (FR ro') 0 P Q a w:=by
  unfold evRegion at h
  split at h
  · rename_i hdr
    rw[hdr]
    split at h
    · rename_i hchk
      rw[Bool.and_eq_true,List.all_eq_true]at hchk
      split at h
      · rename_i L hL
        split at h
        · rename_i T' H' n' dirty hf
          obtain⟨acc,he,rfl⟩:=evFast_draw (late ops) L [] [] _ _ _ _ _ _ _ hL (by simp) hf
          simp only[Option.some.injEq]at h;subst h
          obtain⟨h1,h2,h3,h4,h5,hle,hrest⟩:=evDraw_facts hcr he
          refine wpIn_region_any hm ?_
          have hn0:=hs.le
          have hnB:n'≤B:=hB
          have hfr : ∀n,st.next≤n→n<n'→ρ n=none:=fun n g1 g2=>by
           rw[hR.post.ren n (by omega)];exact hfree n (by omega) (by omega)
          have hg' : ∀g,g<cf.nb→∃k,ρ g=some (g,k):=fun g hgn=>by
           obtain⟨k,hk⟩:=hg g hgn
           exact⟨k,hR.post.sub _ _ hk⟩
          have hw : ∀ {ρ:Ren} {G:Nat→Option VObj},Rel ρ G w→Rel ρ G { w with drawn:=w.drawn+1}:=fun hr =>
           ⟨fun n o ho=>by obtain⟨b,k,e1,e2⟩:=hr.hr n o ho;exact⟨b,k,e1,by cases o<;>first | exact e2 | (obtain⟨L,q1,q2,q3,q4,q5⟩:=e2;exact⟨L,q1,q2,⟨q3.os,q3.tape,q3.output,q3.size,q3.block⟩,q4,q5⟩)⟩,hr.inj,hr.lt,hr.own⟩
          refine draw_all (Q:=Q) (ro:=ro') hcr hco h1 h2 (by simpa using h3) h4 (by rw[h5];exact nodupB_ok hchk.1) ?_ (hs.bound hb0) hg' hfr (df:=st.df) (w₀:= { w with drawn:=w.drawn+1}) ?_
           ops.size (Array.replicate ops.size false) ρ a _ (by simp) (by simp) ?_ ?_
          · intro i hi
            have hmem:=hchk.2 i (by simpa using hi)
            have:i∈acc.reverse.map (·.i):=by rw[h5];simpa using hmem
            obtain⟨r,hr,hri⟩:=List.mem_map.1 this
            exact⟨r,hr,hri⟩
          · intro ρ' a' w' hJ
            have hD : ∀r∈acc.reverse,decide (r.i<ops.size)=true:=fun r hr=>by
             have:=(Array.getElem?_eq_some_iff.1 (h1.ok hcr r hr).op).1
             simpa using this
            have eT:(fun t=>TDL (fun i=>decide (i<ops.size)) t acc.reverse (st.T.val t))=T'.val:=by
             funext t
             rw[h1.tmps hcr t]
             exact TDL_congr fun r hr _=>by rw[hD r hr]
            have eH:(fun n=>HDL (fun i=>decide (i<ops.size)) n acc.reverse (st.H.get n))=H'.get:=by
             funext n
             rw[h1.heap hcr n]
             exact HDL_congr fun r hr _=>by rw[hD r hr]
            have eC:(fun n=>∃r∈acc.reverse,decide (r.i<ops.size)=true∧r.next≤n∧n<r.out.next)=fun n=>st.next≤n∧n<n':=by
             funext n;apply propext
             constructor
             · rintro⟨r,hr, -,g1,g2⟩
               have:=(h1.le hcr).2 r hr
               omega
             · rintro⟨g1,g2⟩
               obtain⟨r,hr,g3⟩:=h1.tile n g1 g2
               exact⟨r,hr,hD r hr,g3⟩
            have eD:(fun n=>n<st.next∧∃r∈acc.reverse,decide (r.i<ops.size)=true∧n∈r.out.dirty)=(· ∈ (acc.flatMap fun r=>r.out.dirty).filter fun d=>Nat.blt d st.next):=by
             funext n;apply propext
             simp only[List.mem_filter,List.mem_flatMap,Nat.blt_eq]
             constructor
             · rintro⟨g0,r,hr, -,g1⟩;exact⟨⟨r,by simpa using hr,g1⟩,g0⟩
             · rintro⟨⟨r,hr,g1⟩,g0⟩;exact⟨g0,r,by simpa using hr,hD r (by simpa using hr),g1⟩
            have htr:=hJ.tr
            have hpost:=hJ.post
            rw[eT]at htr
            rw[eC,eD,eH]at hpost
            have hpost':Post ρ st.H.get w (fun n=>st.next≤n∧n<n') (· ∈ (acc.flatMap fun r=>r.out.dirty).filter fun d=>Nat.blt d st.next) ρ' H'.get w' :=
             ⟨hpost.ren,hpost.lt,hpost.hr,hpost.new,hpost.inj,hpost.frame,hpost.live,hpost.free,hpost.os,hpost.tape,hpost.output,hpost.size⟩
            have:=hR.step (a':= { tmps:=a'.tmps,defers:=a.defers}) (out:=⟨undef,H',n',(acc.flatMap fun r:Rc=>r.out.dirty).filter fun d=>Nat.blt d st.next⟩) (v':=undef) (T:=T') hs
             (fun d hd=>by simp only[List.mem_filter,Nat.blt_eq]at hd;exact hd.2) ⟨undef_VR,hpost',hrest,hle⟩ (fun n g1 g2=>hfree n (by omega) (by simp only at g2;omega)) ⟨htr.size,htr.val⟩ rfl
            exact hQ ρ' a' w' ⟨htr,hJ.dr,this.rel,this.post⟩
          · intro i o _ hi
            have:Dof (Array.replicate ops.size false) i=false:=by
             simp only[Dof,Array.getD_eq_getD_getElem?,Array.getElem?_replicate]
             split<;>rfl
            rw[this]at hi;cases hi
          · have hf : ∀i,Dof (Array.replicate ops.size false) i=false:=fun i=>by
             simp only[Dof,Array.getD_eq_getD_getElem?,Array.getElem?_replicate]
             split<;>rfl
            have eT:(fun t=>TDL (Dof (Array.replicate ops.size false)) t acc.reverse (st.T.val t))=st.T.val:=by
             funext t;exact TDL_none fun r _ hr=>by rw[hf]at hr;cases hr
            have eH:(fun n=>HDL (Dof (Array.replicate ops.size false)) n acc.reverse (st.H.get n))=st.H.get:=by
             funext n;exact HDL_none fun r _ hr=>by rw[hf]at hr;cases hr
            refine⟨by rw[eT];exact hR.tr,hR.dr,by rw[eH];exact hw hR.rel,?_,fun r hr _ n g1 g2=> ?_⟩
            · rw[eH]
              refine Post.refl' (fun n=> ?_) (fun n=> ?_) hR.rel.lt
              · rintro⟨r,_,hr, -⟩;rw[hf]at hr;cases hr
              · rintro⟨-,r,_,hr, -⟩;rw[hf]at hr;cases hr
            · have:=(h1.le hcr).2 r hr
              exact hfr n (by omega) (by omega)
        · cases h
      · cases h
    · cases h
  · rename_i hdr
    have hdr':draw=false:=by simpa using hdr
    rw[hdr']
    exact wpIn_region (evSeq_ok hb0 hcr hco hro hg hfree _ st st' h hs hB ρ a w Q hR hQ)
end
end Go.Eng
