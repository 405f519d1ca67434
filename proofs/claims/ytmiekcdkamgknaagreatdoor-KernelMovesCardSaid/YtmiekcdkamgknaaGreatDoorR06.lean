import Derived.Test.YtmiekcdkamgknaaGreatDoorR05
set_option linter.unusedSectionVars false
namespace Go.Eng
open Go
inductive XK where
 | valueOf
 | typ
 | isNil
 | elem
 | set
 | typeOf
def XK.fn:XK→Array Value→Sem Value
 | .valueOf=>fun args=>Extern.ReflectliteValue.unpack (args.getD 0 (.tuple #[]))
 | .typ=>Extern.ReflectliteValue.methodAny (Extern.ReflectliteValue.valueError "reflectlite.Value.Type" 0) fun t _ _ _=>Extern.ReflectliteType.toType t
 | .isNil=>Extern.ReflectliteValue.method (Extern.ReflectliteValue.valueError "reflectlite.Value.IsNil" 0) Extern.ReflectliteValue.isNil
 | .elem=>Extern.ReflectliteValue.method (Extern.ReflectliteValue.valueError "reflectlite.Value.Elem" 0) Extern.ReflectliteValue.elem
 | .set=>Extern.ReflectliteValue.set
 | .typeOf=>Extern.ReflectliteType.typeOf
structure TI where
 t:TypeId
 h:Value
 tv:Value
 kd:Nat
 el:Option TypeId
structure Mm where
 recv:Value
 name:String
 args:List Value
 v:Value
inductive Arg where
 | lit (v:Value)
 | rel (d:Nat)
structure Ent where
 key:List Nat
 args:List Arg
 res:Arg
structure Cfg where
 nb:Nat
 xs:FuncId→Option XK
 tis:List TI
 mms:List Mm
 ents:Nat→List Ent:=fun _=> []
def Cfg.ti (cf:Cfg)(t:TypeId):Option TI:=cf.tis.find? fun x=>Nat.beq x.t t
def TIOk (P:Program)(nb:Nat)(x:TI):Prop :=
 quiet P (Extern.Rtype.handle x.t)=some x.h∧quiet P (Extern.ReflectliteType.toType x.t)=some x.tv∧quiet P (Extern.Rtype.kind x.t)=some x.kd∧quiet P (Extern.Rtype.elem? x.t)=some x.el ∧
  P.packed x.t=false∧fixd nb 8 x.h=true∧fixd nb 8 x.tv=true
def isValue (v:Value):Option Next→Prop
 | some (.value u)=>u=v
 | _=>False
def MmOk (P:Program)(nb:Nat)(m:Mm):Prop :=
 quiet P (callMethod m.recv m.name ⟨m.args⟩)=some (.value m.v)∧fixd nb 8 m.recv=true∧m.args.all (fixd nb 8)=true∧fixd nb 8 m.v=true
def bo:BinOp→Nat
 | .add=>0 | .sub=>1 | .mul=>2 | .eql=>3 | .neq=>4 | .lss=>5 | .leq=>6 | .gtr=>7 | .geq=>8 | _=>99
def opKey:Op→Option (List Nat × List Operand)
 | .binOp op t x y _=>some ([0,bo op,t],[x,y])
 | .load t a=>some ([1,t],[a])
 | .indexAddr t x i=>some ([2,t],[x,i])
 | .slice t x (some lo) none none=>some ([3,t],[x,lo])
 | .slice t x none (some hi) none=>some ([4,t],[x,hi])
 | .slice t x (some lo) (some hi) none=>some ([5,t],[x,lo,hi])
 | .convert s d x=>some ([6,s,d],[x])
 | .call { callee:= .builtin .len,args:=⟨[x]⟩,argTypes:=⟨[t]⟩}=>some ([7,t],[x])
 | .index t x i=>some ([8,t],[x,i])
 | .nilCheck x=>some ([9],[x])
 | _=>none
def Arg.ab (n:Nat):Arg→Value
 | .lit v=>v
 | .rel d=> .chan (some (n+d))
def Arg.co (L:List Value):Arg→Value
 | .lit v=>v
 | .rel d=>L.getD d undef
def Arg.ok (m:Nat):Arg→Bool
 | .lit v=>flat 8 v
 | .rel d=>Nat.blt d m
def OkSym (v:Value):Prop:=v.cells = #[v]∧v.oneCell'=true∧∀b,v≠ .bool b
def EntOk (P:Program)(e:Ent)(L:List Value)(w:World):Prop :=
 (∀d,e.res = .rel d→OkSym (L.getD d undef)) ∧
 ∀(o:Oper) (xs:List Operand) (E:Operand→Value),opKey o.op=some (e.key,xs)→xs.map E=e.args.map (Arg.co L)→(execOp E o).run P w = .ok (.value (e.res.co L)) w
def TabOk [Base] (P:Program)(cf:Cfg):Prop:=∀i,∀e∈cf.ents i,∀(L:List Value) (w:World),RowKit.Below Base.B0 Base.W0 w→Base.T i L w→EntOk P e L w
def XOk [Base] (P:Program)(cf:Cfg):Prop :=
 (∀f k,cf.xs f=some k→∀(args:Array Value) (w:World),(callFunc f args).run P w=((k.fn args).run P w).andThen fun v w'=> .ok (.value v) w') ∧
 (∀x∈cf.tis,TIOk P cf.nb x)∧(∀m∈cf.mms,MmOk P cf.nb m)∧TabOk P cf
def eqV:Nat→Value→Value→Bool
 | 0,_,_=>false
 | _+1, .bool a, .bool b=>a == b
 | _+1, .int k i, .int l j=>decide (k=l) && decide (i=j)
 | _+1, .pointer (some ⟨b,o,none⟩), .pointer (some ⟨c,p,none⟩)=>Nat.beq b c && Nat.beq o p
 | _+1, .nilIface, .nilIface=>true
 | n+1, .iface t v, .iface u x=>Nat.beq t u && eqV n v x
 | n+1, .agg ⟨l⟩, .agg ⟨m⟩=>Nat.beq l.length m.length && (l.zip m).all fun p=>eqV n p.1 p.2
 | _+1,_,_=>false
theorem zip_eq {α:Type}{f:α→α→Bool}(hf : ∀a b,f a b=true→a=b) : ∀ {l m:List α},l.length=m.length→(l.zip m).all (fun p=>f p.1 p.2)=true→l=m
 | [],[],_,_=>rfl
 | [],_::_,h,_=>by simp at h
 | _::_,[],h,_=>by simp at h
 | a::l,b::m,h,h2=>by
    simp only[List.zip_cons_cons,List.all_cons,Bool.and_eq_true]at h2
    rw[hf a b h2.1,zip_eq hf (by simpa using h) h2.2]
theorem eqV_eq : ∀(n:Nat) (v u:Value),eqV n v u=true→v=u
 | 0,v,u,h=>by simp[eqV]at h
 | n+1,v,u,h=>by
    unfold eqV at h
    split at h
    case h_1 h'=>cases h'
    case h_2=>simp only[beq_iff_eq]at h;rw[h]
    case h_3=>simp only[Bool.and_eq_true,decide_eq_true_eq]at h;rw[h.1,h.2]
    case h_4=>simp only[Bool.and_eq_true]at h;rw[Nat.eq_of_beq_eq_true h.1,Nat.eq_of_beq_eq_true h.2]
    case h_5=>rfl
    case h_6 hn =>
     simp only[Bool.and_eq_true]at h
     have ih:=eqV_eq n
     obtain rfl:=Nat.succ.inj hn
     rw[Nat.eq_of_beq_eq_true h.1,ih _ _ h.2]
    case h_7 hn =>
     simp only[Bool.and_eq_true]at h
     have ih:=eqV_eq n
     obtain rfl:=Nat.succ.inj hn
     rw[zip_eq ih (Nat.eq_of_beq_eq_true h.1) h.2]
    case h_8=>cases h
def eqVs (l m:List Value):Bool:=Nat.beq l.length m.length && (l.zip m).all fun p=>eqV 8 p.1 p.2
theorem eqVs_eq {l m:List Value}(h:eqVs l m=true):l=m:=by
 simp only[eqVs,Bool.and_eq_true]at h
 exact zip_eq (eqV_eq 8) (Nat.eq_of_beq_eq_true h.1) h.2
def notTok:Value→Bool
 | .chan (some _)=>false
 | _=>true
def isNilV:Value→Bool
 | .chan none | .nilFunc | .nilIface | .map none | .pointer none | .slice none _ _=>true
 | _=>false
section defs
variable (P:Program)
def partT (cf:Cfg)(h:Value)(f:Int):Option (TI × Nat) :=
 if f=0 then none else
 match handleType P h with
 | some t=>(cf.ti t).map fun x=>(x,f.toNat)
 | none=>none
def xkOf (cf:Cfg)(E:Operand→Value)(o:Oper):Option (XK × List Value) :=
 match o.op with
 | .call c =>
    match c.callee with
    | .value f =>
       match E f with
       | .func (.func g) ⟨[]⟩ ⟨[]⟩ =>
          match cf.xs g with
          | some k=>some (k,c.args.toList.map E)
          | none=>none
       | _=>none
    | _=>none
 | _=>none
def memo (cf:Cfg)(E:Operand→Value)(o:Oper):Option Value :=
 match o.op with
 | .call c =>
    match c.callee with
    | .invoke r m=>(cf.mms.find? fun x=>eqV 8 x.recv (E r) && eqVs x.args (c.args.toList.map E) && x.name == m).map (·.v)
    | _=>none
 | _=>none
def xQ (cf:Cfg)(k:XK)(args:List Value):Option Value :=
 match k,args with
 | .typ,[.agg ⟨[h, .pointer (some _), .int .u64 f]⟩] =>
    if f=0 then none else
    if fixd cf.nb 8 h then
     match handleType P h with
     | some t=>(cf.ti t).map (·.tv)
     | none=>none
    else none
 | .typeOf,[.iface t _]=>(cf.ti t).map (·.tv)
 | .typeOf,[.nilIface]=>some .nilIface
 | _,_=>none
def rowOf:VObj→Option (List Value)
 | .row cs _ _ _=>some cs
 | .ro cs _=>some cs
 | _=>none
noncomputable def xR (cf:Cfg) (k:XK) (args:List Value) (H:Tr VObj):Option (Value × Nat) :=
 match args with
 | [.agg ⟨[h, .pointer (some ⟨b,of,none⟩), .int .u64 f]⟩] =>
    if fixd cf.nb 8 h then
     match partT P cf h f with
     | some (t,fl) =>
        match (H.get b).bind rowOf with
        | some cs =>
           match rowV P t.t cs of with
           | some v =>
              match k with
              | .isNil=>if[18,19,20,21,22,23,26].contains (fl % 32) && notTok v then some (.bool (isNilV v),b)else none
              | .elem =>
                 if fl % 32=22 then
                  match v,t.el with
                  | .pointer (some p),some e =>
                     match cf.ti e with
                     | some x=>some (.agg ⟨[x.h, .pointer (some p), .int .u64 (Int.ofNat (x.kd+128+256))]⟩,b)
                     | none=>none
                  | _,_=>none
                 else none
              | _=>none
           | none=>none
        | none=>none
     | none=>none
    else none
 | _=>none
def xA (cf:Cfg)(k:XK)(args:List Value)(n:Nat):Option (Value × VObj) :=
 match k,args with
 | .valueOf,[.iface t v] =>
    match cf.ti t with
    | some x=>some (.agg ⟨[x.h, .pointer (some ⟨n,0,none⟩), .int .u64 (Int.ofNat (x.kd+128+0))]⟩, .row v.cells.toList x.t none (0,0))
    | none=>none
 | _,_=>none
noncomputable def storeO (H:Tr VObj) (next:Nat) (t:TypeId) (b of:Nat) (x:Value):Option Out :=
 match H.get b,P.info? t with
 | some (.row cs e lo fr),some i =>
    if fr.1=0∧fr.2=0∧x.cells.toList.length=i.size∧of+i.size≤cs.length∧x.cells.toList.all one=true∧b<1099511627775 then
     some ⟨.tuple #[],Tr.put (some (.row (cs.take of++x.cells.toList++cs.drop (of+i.size)) e lo fr)) wide H b,next,[b]⟩
    else none
 | _,_=>none
noncomputable def xS (cf:Cfg) (k:XK) (args:List Value) (H:Tr VObj) (next:Nat):Option Out :=
 match k,args with
 | .set,[.agg ⟨[h1, .pointer (some ⟨d,do',none⟩), .int .u64 f1]⟩, .agg ⟨[h2, .pointer (some ⟨s,so,none⟩), .int .u64 f2]⟩] =>
    if fixd cf.nb 8 h1 && fixd cf.nb 8 h2 then
     match partT P cf h1 f1,partT P cf h2 f2 with
     | some (dt,fl),some (st,_) =>
        if fl / 256 % 2=0 then none else
        if Nat.beq dt.t st.t then
         match (H.get s).bind rowOf with
         | some cs =>
            match rowV P st.t cs so with
            | some v=>storeO P H next dt.t d do' v
            | none=>none
         | none=>none
        else none
     | _,_=>none
    else none
 | _,_=>none
end defs
section
variable [Base] {P:Program} {ρ:Ren}
end
section
def eqT:Value→Value→Bool
 | .chan (some a), .chan (some b)=>Nat.beq a b
 | .int k i, .int l j=>decide (k=l) && decide (i=j)
 | .string a, .string b=>decide (a.data.toList=b.data.toList)
 | .bool a, .bool b=>a == b
 | _,_=>false
theorem eqT_eq (v u:Value)(h:eqT v u=true):v=u:=by
 unfold eqT at h
 split at h
 · rw[Nat.eq_of_beq_eq_true h]
 · simp only[Bool.and_eq_true,decide_eq_true_eq]at h;rw[h.1,h.2]
 · simp only[decide_eq_true_eq]at h
   congr 1
   exact ByteArray.ext (Array.toList_inj.1 h)
 · simp only[beq_iff_eq]at h;rw[h]
 · cases h
def eqTs (l m:List Value):Bool:=Nat.beq l.length m.length && (l.zip m).all fun p=>eqT p.1 p.2
theorem eqTs_eq {l m:List Value}(h:eqTs l m=true):l=m:=by
 simp only[eqTs,Bool.and_eq_true]at h
 exact zip_eq eqT_eq (Nat.eq_of_beq_eq_true h.1) h.2
def eqN (l m:List Nat):Bool:=Nat.beq l.length m.length && (l.zip m).all fun p=>Nat.beq p.1 p.2
theorem eqN_eq {l m:List Nat}(h:eqN l m=true):l=m:=by
 simp only[eqN,Bool.and_eq_true]at h
 exact zip_eq (fun _ _ h=>Nat.eq_of_beq_eq_true h) (Nat.eq_of_beq_eq_true h.1) h.2
def entFor (n m:Nat)(key:List Nat)(vs:List Value)(es:List Ent):Option Ent :=
 es.find? fun e=>eqN e.key key && e.args.all (Arg.ok m) && e.res.ok m && eqTs (e.args.map (Arg.ab n)) vs
noncomputable def tryTok (cf:Cfg) (H:Tr VObj) (key:List Nat) (vs:List Value):List Value→Option (Value × Nat)
 | []=>none
 | .chan (some n)::l =>
    match H.get n with
    | some (.tk i m _) =>
       match entFor n m key vs (cf.ents i)with
       | some e=>some (e.res.ab n,n)
       | none=>tryTok cf H key vs l
    | _=>tryTok cf H key vs l
 | _::l=>tryTok cf H key vs l
noncomputable def evT (cf:Cfg) (E:Operand→Value) (H:Tr VObj) (o:Oper):Option (Value × Nat) :=
 match opKey o.op with
 | some (key,xs)=>tryTok cf H key (xs.map E) (xs.map E)
 | none=>none
theorem tryTok_is {cf:Cfg}{H:Tr VObj}{key:List Nat}{vs:List Value}{v:Value}{n:Nat} : ∀ {l:List Value},tryTok cf H key vs l=some (v,n) →
 ∃i m p e,H.get n=some (.tk i m p)∧entFor n m key vs (cf.ents i)=some e∧v=e.res.ab n
 | [],h=>by simp[tryTok]at h
 | x::l,h=>by
    have skip:tryTok cf H key vs l=some (v,n)→_:=tryTok_is (l:=l)
    unfold tryTok at h
    split at h
    · rename_i heq;cases heq
    · rename_i n' l' heq
      injection heq with h1 h2
      subst h2
      split at h
      · rename_i i m p hg
        split at h
        · rename_i e he
          simp only[Option.some.injEq,Prod.mk.injEq]at h
          obtain⟨rfl,rfl⟩:=h
          exact⟨i,m,p,e,hg,he,rfl⟩
        · exact skip h
      · exact skip h
    · rename_i heq
      injection heq with h1 h2
      subst h2
      exact skip h
end
section
variable [Base] {P:Program} {ρ:Ren}
theorem VRs.co {n m:Nat}{L:List Value}(hL : ∀d v,L[d]? = some v→∃b k,ρ (n+d)=some (b,k)∧k.v=v)(hlen:L.length=m) : ∀ {as:List Arg} {vs:List Value},as.all (Arg.ok m)=true→VRs ρ (as.map (Arg.ab n)) vs→vs=as.map (Arg.co L)
 | [],_,_, .nil=>rfl
 | a::as,_,h, .cons hv ht=>by
    simp only[List.all_cons,Bool.and_eq_true]at h
    rw[List.map_cons,←VRs.co hL hlen h.2 ht]
    congr 1
    cases a with
    | lit v=>exact VR.eq_of_flat 8 _ _ h.1 hv
    | rel d =>
       have hd:d<L.length:=by rw[hlen];simpa[Arg.ok,Nat.blt_eq]using h.1
       obtain⟨b,k,e1,e2⟩:=hL d L[d] (List.getElem?_eq_getElem hd)
       simp only[Arg.ab]at hv
       cases hv with
       | atom h=>simp[Eng.atom]at h
       | sym h1 h2 _ _ _ =>
          rw[e1]at h1;injection h1 with h1;injection h1 with _ h1;subst h1
          rw[h2,e2]
          simp[Arg.co,hd]
theorem opKey_operands {op:Op}{key:List Nat}{xs:List Operand}(h:opKey op=some (key,xs)) : ∀x∈xs,x∈op.operands:=by
 unfold opKey at h
 split at h
 all_goals first | (cases h;done) | (simp only[Option.some.injEq,Prod.mk.injEq]at h;obtain⟨rfl,rfl⟩:=h;intro x hx;simp[Op.operands,Call.operands]at hx ⊢;simp_all)
theorem evT_ok {cf:Cfg}(hX:TabOk P cf){E E':Operand→Value}{H:Tr VObj}{o:Oper}{v:Value}{n:Nat}{w:World}(h:evT cf E H o=some (v,n))(hE : ∀x∈o.op.operands,VR ρ (E x) (E' x))
 (hH : ∀ob,H.get n=some ob→HR1 ρ n ob w):(H.get n).isSome∧∃v',VR ρ v v'∧(execOp E' o).run P w = .ok (.value v') w:=by
  unfold evT at h
  split at h
  · rename_i key xs hk
    obtain⟨i,m,p,e,hg,he,rfl⟩:=tryTok_is h
    refine⟨by simp[hg],?_⟩
    obtain⟨b,k,hb,L,h1,h2,h3,h4,h5⟩:=hH _ hg
    have hT:=h5 w h3 (Nat.le_refl _) fun _=>rfl
    have hmem:=List.mem_of_find?_eq_some he
    have hq:=List.find?_some he
    simp only[Bool.and_eq_true]at hq
    obtain⟨⟨⟨q1,q2⟩,q3⟩,q4⟩:=hq
    have q1':=eqN_eq q1
    have q4':=eqTs_eq q4
    obtain⟨g1,g2⟩:=hX i e hmem L w h3 hT
    have hvs:VRs ρ (xs.map E) (xs.map E'):=VRs.mapV _ fun x hx=>hE x (opKey_operands hk x hx)
    rw[←q4']at hvs
    have hco:=VRs.co h2 h1 q2 hvs
    have hrun:=g2 o xs E' (q1'▸hk) hco
    refine⟨_,?_,hrun⟩
    cases hres:e.res with
    | lit v=>rw[hres]at q3;exact VR.of_flat 8 v q3
    | rel d =>
       rw[hres]at q3
       have hd:d<L.length:=by rw[h1];simpa[Arg.ok,Nat.blt_eq]using q3
       obtain⟨b2,k2,e1,e2⟩:=h2 d L[d] (List.getElem?_eq_getElem hd)
       have hs:=g1 d hres
       have ed:L.getD d undef=L[d]:=by simp[hd]
       rw[ed]at hs
       simp only[Arg.ab,Arg.co,ed]
       exact .sym e1 e2.symm hs.1 hs.2.1 hs.2.2
  · cases h
theorem ti_ok {cf:Cfg}(hX:XOk P cf){t:TypeId}{x:TI}(h:cf.ti t=some x):TIOk P cf.nb x∧x.t=t:=by
 unfold Cfg.ti at h
 exact⟨hX.2.1 x (List.mem_of_find?_eq_some h),Nat.eq_of_beq_eq_true (List.find?_some (p:=fun x:TI=>Nat.beq x.t t) h)⟩
theorem run_ofHandle {h:Value}{t:TypeId}(ht:handleType P h=some t)(w:World):(Extern.Rtype.ofHandle h).run P w = .ok t w:=by
 simp only[Extern.Rtype.ofHandle,Sem.run_bind,run_program,Result.andThen_ok,ht,Sem.run_pure]
theorem run_partsAny {h:Value}{a:Addr}{t:TypeId}(ht:handleType P h=some t)(w:World) : ∀ {f:Int},f≠0 →
 (Extern.ReflectliteValue.partsAny (.agg #[h, .pointer (some a), .int .u64 f])).run P w = .ok (some (t,a,f.toNat)) w
  | .ofNat 0,hf=>absurd rfl hf
  | .ofNat (n+1),_=>by
     show Sem.run P (Extern.Rtype.ofHandle h >>= _) w=_
     simp only[Sem.run_bind,run_ofHandle ht,Result.andThen_ok,Sem.run_pure]
  | .negSucc n,_=>by
     show Sem.run P (Extern.Rtype.ofHandle h >>= _) w=_
     simp only[Sem.run_bind,run_ofHandle ht,Result.andThen_ok,Sem.run_pure]
theorem run_noPack {what:String}{t:TypeId}(h:P.packed t=false)(w:World):(Extern.Rtype.noPack what t).run P w = .ok () w:=by
 simp only[Extern.Rtype.noPack,Sem.run_bind,run_program,Result.andThen_ok,h,Bool.false_eq_true,if_false,Sem.run_pure]
theorem run_method {z:Sem Value}{f:TypeId→Addr→Nat→Nat→Sem Value}{v:Value}{t:TypeId}{a:Addr}{fl:Nat}{w:World}(h:(Extern.ReflectliteValue.parts v).run P w = .ok (some (t,a,fl)) w) :
 (Extern.ReflectliteValue.method z f #[v]).run P w=(f t a fl (fl % 32)).run P w:=by
  show Sem.run P (Extern.ReflectliteValue.parts v >>= _) w=_
  simp only[Sem.run_bind,h,Result.andThen_ok]
theorem run_methodAny {z:Sem Value}{f:TypeId→Addr→Nat→Nat→Sem Value}{v:Value}{t:TypeId}{a:Addr}{fl:Nat}{w:World}(h:(Extern.ReflectliteValue.partsAny v).run P w = .ok (some (t,a,fl)) w) :
 (Extern.ReflectliteValue.methodAny z f #[v]).run P w=(f t a fl (fl % 32)).run P w:=by
  show Sem.run P (Extern.ReflectliteValue.partsAny v >>= _) w=_
  simp only[Sem.run_bind,h,Result.andThen_ok]
theorem run_set {v x:Value}{dst src:TypeId}{a b:Addr}{fl m:Nat}{val:Value}{w w':World}(h1:(Extern.ReflectliteValue.parts v).run P w = .ok (some (dst,a,fl)) w)
 (h2:(Extern.ReflectliteValue.parts x).run P w = .ok (some (src,b,m)) w) (hfl:(fl / Extern.ReflectliteValue.flagAddr % 2 == 0)=false) (hl:(loadVar src b).run P w = .ok val w)
 (hd:(Extern.Rtype.directlyAssignable dst src).run P w = .ok true w) (hs:(storeVar dst a val).run P w = .ok () w') :
 (Extern.ReflectliteValue.set #[v,x]).run P w = .ok (.tuple #[]) w':=by
  show Sem.run P (Extern.ReflectliteValue.parts v >>= _) w=_
  simp only[Sem.run_bind,h1,Result.andThen_ok]
  change ((Sem.run P (Extern.ReflectliteValue.parts x) w).andThen _)=_
  simp only[Sem.run_bind,h2,Result.andThen_ok,hfl,Bool.false_eq_true,if_false,hl,hd,if_true,hs,Sem.run_pure]
theorem run_parts {cf:Cfg}(hX:XOk P cf){h:Value}{a:Addr}{f:Int}{t:TI}{fl:Nat}(hp:partT P cf h f=some (t,fl))(w:World) :
 (Extern.ReflectliteValue.parts (.agg #[h, .pointer (some a), .int .u64 f])).run P w = .ok (some (t.t,a,fl)) w:=by
  unfold partT at hp
  split at hp
  · cases hp
  · rename_i hf
    split at hp
    · rename_i t' ht
      rw[Option.map_eq_some_iff]at hp
      obtain⟨x,hx,he⟩:=hp
      simp only[Prod.mk.injEq]at he
      obtain⟨rfl,rfl⟩:=he
      obtain⟨hok,rfl⟩:=ti_ok hX hx
      simp only[Extern.ReflectliteValue.parts,Sem.run_bind,run_partsAny ht w hf,Result.andThen_ok,Sem.run_pure,run_noPack hok.2.2.2.2.1]
    · cases hp
theorem xkOf_ok {cf:Cfg}(hx:XOk P cf){E E':Operand→Value}{o:Oper}{k:XK}{args:List Value}(h:xkOf cf E o=some (k,args))(hE : ∀x∈o.op.operands,VR ρ (E x) (E' x)) :
 ∃args',VRs ρ args args'∧∀w,(execOp E' o).run P w=((k.fn ⟨args'⟩).run P w).andThen fun v w'=> .ok (.value v) w':=by
 obtain⟨dst,op,ty,pos,after,guard⟩:=o
 unfold xkOf at h
 cases op with
 | call c =>
    obtain⟨callee,cargs,ats⟩:=c
    cases callee with
    | value x =>
       have hxx:=hE x (by simp[Op.operands,Call.operands])
       have hargs:VRs ρ (cargs.toList.map E) (cargs.toList.map E'):=VRs.mapV _ fun y hy=>hE y (by simp[Op.operands,Call.operands];exact .inr (by simpa using hy))
       simp only at h
       split at h
       · rename_i g hv
         rw[hv]at hxx
         obtain⟨first',cap',h1,h2,he⟩:=hxx.func_inv
         cases h1;cases h2
         split at h
         · rename_i k' hk
           simp only[Option.some.injEq,Prod.mk.injEq]at h
           obtain⟨rfl,rfl⟩:=h
           refine⟨_,hargs,fun w=> ?_⟩
           have e:(⟨cargs.toList.map E'⟩:Array Value)=cargs.map E':=by rw[←Array.toList_inj];simp
           rw[e,←hx.1 g k' hk]
           simp[execOp,resolve,he,Deferred.ofValue,invoke]
         · cases h
       · cases h
    | _=>simp at h
 | _=>simp at h
theorem VR.agg3 {nb:Nat}(hg:Fixes ρ nb){h:Value}{b of:Nat}{f:Int}{v':Value}(hv:VR ρ (.agg ⟨[h, .pointer (some ⟨b,of,none⟩), .int .u64 f]⟩) v')(hf:fixd nb 8 h=true) :
 ∃b' k,ρ b=some (b',k)∧v' = .agg ⟨[h, .pointer (some ⟨b',of,none⟩), .int .u64 f]⟩:=by
 cases hv with
 | atom h=>simp[Eng.atom]at h
 | agg hl =>
    cases hl with
    | cons h1 hl =>
       cases hl with
       | cons h2 hl =>
          cases hl with
          | cons h3 hl =>
             cases hl
             obtain⟨b',k,e1,e2⟩:=h2.ptr_inv
             subst e2
             have e3:=VR.eq_of_fixd hg 8 _ _ hf h1
             subst e3
             have e4:=h3.int_inv
             subst e4
             exact⟨b',k,e1,rfl⟩
theorem VR.isNil {v v':Value}(h:VR ρ v v')(hn:notTok v=true):isNilV v'=isNilV v:=by
 cases h<;>first | rfl | simp[notTok]at hn
theorem rowOf_ok {n:Nat}{ob:VObj}{cs:List Value}{w:World}(h:HR1 ρ n ob w)(hr:rowOf ob=some cs) :
 ∃b k c' e fr,ρ n=some (b,k)∧w.heap[b]? = some (.cells c' e fr)∧VRs ρ cs (c'.toList.take cs.length)∧cs.length≤c'.size:=by
 obtain⟨b,k,h1,h⟩:=h
 cases ob with
 | row cs' e lo fr =>
    simp only[rowOf,Option.some.injEq]at hr;subst hr
    obtain⟨c',h2,h3,h4, -⟩:=h
    exact⟨b,k,c',e,fr,h1,h2,h3,h4⟩
 | ro cs' z =>
    simp only[rowOf,Option.some.injEq]at hr;subst hr
    obtain⟨c',e,fr,h2,h3,h4, -⟩:=h
    exact⟨b,k,c',e,fr,h1,h2,h3,h4⟩
 | _=>simp[rowOf]at hr
theorem xQ_ok {cf:Cfg}(hX:XOk P cf)(hg:Fixes ρ cf.nb){k:XK}{args args':List Value}{v:Value}(h:xQ P cf k args=some v)(ha:VRs ρ args args') :
 ∃v',VR ρ v v'∧∀w,(k.fn ⟨args'⟩).run P w = .ok v' w:=by
 unfold xQ at h
 split at h
 · rename_i hh a f
   split at h
   · cases h
   · rename_i hf
     split at h
     · rename_i hfx
       split at h
       · rename_i t ht
         obtain⟨x,hx,rfl⟩:=Option.map_eq_some_iff.1 h
         obtain⟨hok,rfl⟩:=ti_ok hX hx
         have hv:=hok.2.2.2.2.2.2
         have hrun:=fun w=>quiet_run hok.2.1 w
         cases ha with
         | cons h1 h2 =>
            cases h2
            obtain⟨b,of,s⟩:=a
            have : ∀x,VR ρ (.agg ⟨[hh, .pointer (some ⟨b,of,s⟩), .int .u64 f]⟩) x→∃a',x = .agg ⟨[hh, .pointer (some a'), .int .u64 f]⟩:=by
             intro x hx
             cases hx with
             | atom h=>simp[Eng.atom]at h
             | agg hl =>
                cases hl with
                | cons h1 hl =>
                   cases hl with
                   | cons h2 hl =>
                      cases hl with
                      | cons h3 hl =>
                         cases hl
                         have e3:=VR.eq_of_fixd hg 8 _ _ hfx h1
                         have e4:=h3.int_inv
                         subst e3 e4
                         cases h2 with
                         | atom h=>simp[Eng.atom]at h
                         | ptr h=>exact⟨_,rfl⟩
            obtain⟨a',rfl⟩:=this _ h1
            refine⟨_,VR.of_fixd hg 8 _ hv,fun w=> ?_⟩
            simp only[XK.fn,run_methodAny (run_partsAny ht w hf),hrun]
       · cases h
     · cases h
 · obtain⟨x,hx,rfl⟩:=Option.map_eq_some_iff.1 h
   obtain⟨hok,rfl⟩:=ti_ok hX hx
   have hv:=hok.2.2.2.2.2.2
   have hrun:=fun w=>quiet_run hok.2.1 w
   cases ha with
   | cons h1 h2 =>
      cases h2
      cases h1 with
      | atom h=>simp[Eng.atom]at h
      | iface h1=>exact⟨_,VR.of_fixd hg 8 _ hv,fun w=>hrun w⟩
 · simp only[Option.some.injEq]at h;subst h
   cases ha with
   | cons h1 h2 =>
      cases h2
      cases h1 with
      | atom h=>exact⟨.nilIface, .atom rfl,fun w=>rfl⟩
 · cases h
theorem run_elem22 {t:TypeId}{a p:Addr}{fl:Nat}{e:TypeId}{w:World}(hl:(loadVar t a).run P w = .ok (.pointer (some p)) w)(hq:(Extern.Rtype.elem? t).run P w = .ok (some e) w) :
 (Extern.ReflectliteValue.elem t a fl 22).run P w=(Extern.ReflectliteValue.mk e p Extern.ReflectliteValue.flagAddr).run P w:=by
  have e1:((22:Nat) != 20 && (22:Nat) != 22)=false:=rfl
  simp only[Extern.ReflectliteValue.elem,e1,Bool.false_eq_true,if_false,Sem.run_bind,hl,hq,Result.andThen_ok]
theorem xR_ok {cf:Cfg}(hX:XOk P cf)(hg:Fixes ρ cf.nb){k:XK}{args args':List Value}{H:Tr VObj}{v:Value}{n:Nat}(h:xR P cf k args H=some (v,n))(ha:VRs ρ args args'){w:World}
 (hH : ∀ob,H.get n=some ob→HR1 ρ n ob w):(H.get n).isSome∧∃v',VR ρ v v'∧(k.fn ⟨args'⟩).run P w = .ok v' w:=by
  unfold xR at h
  split at h
  · rename_i hh b of f
    split at h
    · rename_i hfx
      split at h
      · rename_i t fl hp
        split at h
        · rename_i cs hcs
          split at h
          · rename_i u hu
            obtain⟨ob,hob,hrow⟩:=Option.bind_eq_some_iff.1 hcs
            cases ha with
            | cons h1 h2 =>
               cases h2
               obtain⟨b',kk,e1,rfl⟩:=VR.agg3 hg h1 hfx
               have key:b=n→(H.get n).isSome∧∃u',VR ρ u u'∧(loadVar t.t ⟨b',of,none⟩).run P w = .ok u' w:=by
                rintro rfl
                obtain⟨b2,k2,c',e,fr,g1,g2,g3,g4⟩:=rowOf_ok (hH ob hob) hrow
                rw[e1]at g1;injection g1 with g1;injection g1 with g1 _;subst g1
                exact⟨by simp[hob],rowV_ok hu g2 g3 g4⟩
               split at h
               · split at h
                 · rename_i hk
                   rw[Bool.and_eq_true]at hk
                   obtain⟨hk,hkt⟩:=hk
                   simp only[Option.some.injEq,Prod.mk.injEq]at h
                   obtain⟨rfl,rfl⟩:=h
                   obtain⟨hs,u',hu',hl⟩:=key rfl
                   refine⟨hs, .bool (isNilV u), .atom rfl,?_⟩
                   have hn : ∀x:Value,(match x with | .chan none | .nilFunc | .nilIface | .map none | .pointer none | .slice none _ _=>(pure (.bool true):Sem Value) | _=>pure (.bool false))=pure (.bool (isNilV x)):=by
                    intro x;unfold isNilV;split<;>rfl
                   simp only[XK.fn,run_method (run_parts hX hp w),Sem.run_bind,Result.andThen_ok,Extern.ReflectliteValue.isNil,hk,Bool.not_true,Bool.false_eq_true,if_false,hl]
                   have:=congrArg (fun m:Sem Value=>m.run P w) (hn u')
                   simp only[Sem.run_pure]at this
                   rw[←hu'.isNil hkt]
                   exact this
                 · cases h
               · split at h
                 · rename_i hk
                   split at h
                   · rename_i p e hq
                     split at h
                     · rename_i x hx2
                       obtain⟨hok,rfl⟩:=ti_ok hX hx2
                       simp only[Option.some.injEq,Prod.mk.injEq]at h
                       obtain⟨rfl,rfl⟩:=h
                       obtain⟨hs,u',hu',hl⟩:=key rfl
                       have hv2:=hok.2.2.2.2.2.1
                       have hr2:=fun w=>quiet_run hok.1 w
                       obtain⟨hpk, -⟩:TIOk P cf.nb t∧True:=by
                        unfold partT at hp
                        split at hp
                        · cases hp
                        · split at hp
                          · obtain⟨x',hx',he⟩:=Option.map_eq_some_iff.1 hp
                            simp only[Prod.mk.injEq]at he
                            obtain⟨rfl, -⟩:=he
                            exact⟨(ti_ok hX hx').1,trivial⟩
                          · cases hp
                       have hq':=hpk.2.2.2.1
                       rw[hq]at hq'
                       obtain⟨pb,po,ps⟩:=p
                       obtain⟨pb',hpv⟩ : ∃a',u' = .pointer (some a')∧VR ρ (.pointer (some ⟨pb,po,ps⟩)) (.pointer (some a')):=by
                        cases hu' with
                        | atom h=>simp[Eng.atom]at h
                        | ptr h=>exact⟨_,rfl, .ptr h⟩
                       obtain⟨rfl,hpv⟩:=hpv
                       refine⟨hs, .agg ⟨[x.h, .pointer (some pb'), .int .u64 (Int.ofNat (x.kd+128+256))]⟩, .agg (.cons (VR.of_fixd hg 8 _ hv2) (.cons hpv (.cons (.atom rfl) .nil))),?_⟩
                       have hk':(fl % 32 != 20 && fl % 32 != 22)=false:=by rw[hk];rfl
                       simp only[XK.fn,run_method (run_parts hX hp w),hk]
                       rw[run_elem22 hl (quiet_run hq' w)]
                       simp[Extern.ReflectliteValue.mk,hr2,quiet_run hok.2.2.1,Extern.ReflectliteValue.flagIndir,Extern.ReflectliteValue.flagAddr]
                     · cases h
                   · cases h
                 · cases h
               · cases h
          · cases h
        · cases h
      · cases h
    · cases h
  · cases h
theorem xA_ok {cf:Cfg}(hX:XOk P cf)(hg : ∀ρ':Ren,Sub ρ ρ'→Fixes ρ' cf.nb){k:XK}{args args':List Value}{H H':Nat→Option VObj}{v:Value}{n:Nat}{ob:VObj}{w:World}(h:xA cf k args n=some (v,ob))(ha:VRs ρ args args')
 (hn:ρ n=none) (hlt:LT ρ w) (hH':H' n=some ob) :
 ∃v' w' ρ',VR ρ' v v'∧Post ρ H w (· = n) (fun _=>False) ρ' H' w'∧(k.fn ⟨args'⟩).run P w = .ok v' w':=by
 unfold xA at h
 split at h
 · rename_i t u
   split at h
   · rename_i x hx2
     obtain⟨hok,rfl⟩:=ti_ok hX hx2
     simp only[Option.some.injEq,Prod.mk.injEq]at h
     obtain⟨rfl,rfl⟩:=h
     have hv2:=hok.2.2.2.2.2.1
     have hr2:=fun w=>quiet_run hok.1 w
     cases ha with
     | cons h1 h3 =>
        cases h3
        cases h1 with
        | atom h=>simp[Eng.atom]at h
        | iface hu =>
           rename_i u'
           have hs:=upd_sub (x:=(w.heap.size,0)) hn
           have hcs:=hu.cells
           have hfin:Post ρ H w (· = n) (fun _=>False) (upd ρ n (w.heap.size,0)) H' (w.alloc (.cells ⟨u'.cells.toList⟩ x.t)) :=
            Post.fresh hn hlt ⟨rfl,rfl,rfl,rfl⟩ fun o ho=>by
             rw[hH']at ho;injection ho with ho;subst ho;exact HR1.fresh rfl (hcs.mono hs)
           refine⟨.agg ⟨[x.h, .pointer (some ⟨w.heap.size,0,none⟩), .int .u64 (Int.ofNat (x.kd+128+0))]⟩,_,_, .agg (.cons (VR.of_fixd (hg _ hs) 8 _ hv2) (.cons (.ptr (upd_self _ _ _)) (.cons (.atom rfl) .nil))),hfin,?_⟩
           simp[XK.fn,Extern.ReflectliteValue.unpack,Extern.ReflectliteValue.mk,newVar,newRow,hr2,quiet_run hok.2.2.1,Extern.ReflectliteValue.flagIndir]
   · cases h
 · cases h
theorem storeO_ok {H:Tr VObj}{next:Nat}{t:TypeId}{b of:Nat}{x x':Value}{out:Out}{w:World}(h:storeO P H next t b of x=some out)(hx:VR ρ x x')(R:Rel ρ H.get w){b':Nat}{k:K}(h1:ρ b=some (b',k)) :
 ∃w',out.v = .tuple #[]∧Post ρ H.get w (fun n=>next≤n∧n<out.next) (· ∈ out.dirty) ρ out.H.get w' ∧
  (∀n,¬(next≤n∧n<out.next)→n∉out.dirty→out.H.get n=H.get n)∧next≤out.next∧(storeVar t ⟨b',of,none⟩ x').run P w = .ok () w':=by
  unfold storeO at h
  split at h
  · rename_i cs e lo fr i hg hi
    split at h
    · rename_i hc
      obtain⟨f1,f2,hsz,hof,hone,hb40⟩:=hc
      obtain⟨fr1,fr2⟩:=fr
      simp only at f1 f2
      subst f1 f2
      simp only[Option.some.injEq]at h
      subst h
      have hr:=R.hr b _ hg
      obtain⟨b'',k'',h6,c',h2,h3,h4,h5⟩:=hr
      rw[h1]at h6
      injection h6 with h6;injection h6 with h6 h7;subst h6;subst h7
      have hcs:=hx.cells
      have hlen:=hcs.length
      have hst:=run_storeCells_at P b' of e x'.cells.toList 0 c' w h2 (by omega) (hcs.ones hone)
      simp only[Nat.add_zero]at hst
      refine⟨w.setRow b' (c'.toList.take of++x'.cells.toList++c'.toList.drop (of+x'.cells.toList.length)).toArray,rfl,?_,?_,Nat.le_refl _,?_⟩
      rotate_left
      · intro n _ hn
        simp only[List.mem_singleton]at hn
        rw[Tr.get_put' _ _ _ _ hb40,if_neg hn]
      · simp only[Sem.run_bind,Sem.run_pure,Result.andThen_ok,storeVar,sizeOf,typeInfo,run_program,hi]
        rw[if_neg (by have:=hlen.trans hsz;simpa using this),hst]
      · have hsp:=HR1.splice (of:=of) (k:=k) h1 h2 h3 h4 h5 hcs (by omega)
        rw[hsz]at hsp
        have hpost:=Post.write (ρ:=ρ) (H:=H.get) (H':=(Tr.put (some (VObj.row (cs.take of++x.cells.toList++cs.drop (of+i.size)) e lo (0,0))) wide H b).get)
         (n:=b) (w':=w.setRow b' (c'.toList.take of++x'.cells.toList++c'.toList.drop (of+x'.cells.toList.length)).toArray)
         R.lt (by simp[hg,wrO]) h1 ⟨fun j hj=>setRow_other w b' j _ hj,by simp,rfl,rfl,rfl⟩ (by rw[Tr.get_put' _ _ _ _ hb40,if_pos rfl]) hsp
        have e1:(fun n=>next≤n∧n<next)=fun _=>False:=by funext n;simp only[eq_iff_iff,iff_false];omega
        have e2:(fun n=>n∈ [b])=fun n=>n=b:=by funext n;simp
        simp only[e1,e2]
        exact hpost
    · cases h
  · cases h
theorem xS_ok {cf:Cfg}(hX:XOk P cf)(hg:Fixes ρ cf.nb){k:XK}{args args':List Value}{H:Tr VObj}{next:Nat}{out:Out}{w:World}(h:xS P cf k args H next=some out)(ha:VRs ρ args args')(R:Rel ρ H.get w) :
 ∃v' w',VR ρ out.v v'∧Post ρ H.get w (fun n=>next≤n∧n<out.next) (· ∈ out.dirty) ρ out.H.get w' ∧
  (∀n,¬(next≤n∧n<out.next)→n∉out.dirty→out.H.get n=H.get n)∧next≤out.next∧(k.fn ⟨args'⟩).run P w = .ok v' w':=by
  unfold xS at h
  split at h
  · rename_i h1 d od f1 h2 s so f2
    split at h
    · rename_i hfx
      rw[Bool.and_eq_true]at hfx
      split at h
      · rename_i dt fl st fl2 hp1 hp2
        split at h
        · cases h
        · rename_i hfl
          split at h
          · rename_i hq
            have hq:dt.t=st.t:=Nat.eq_of_beq_eq_true hq
            split at h
            · rename_i cs hcs
              split at h
              · rename_i u hu
                cases ha with
                | cons a1 ha =>
                   cases ha with
                   | cons a2 ha =>
                      cases ha
                      obtain⟨d',kd,e1,rfl⟩:=VR.agg3 hg a1 hfx.1
                      obtain⟨s',ks,e2,rfl⟩:=VR.agg3 hg a2 hfx.2
                      obtain⟨ob,hob,hrow⟩:=Option.bind_eq_some_iff.1 hcs
                      obtain⟨b2,k2,c',e,fr,g1,g2,g3,g4⟩:=rowOf_ok (R.hr s ob hob) hrow
                      rw[e2]at g1;injection g1 with g1;injection g1 with g1 _;subst g1
                      obtain⟨u',hu',hl⟩:=rowV_ok hu g2 g3 g4
                      obtain⟨w',q1,q2,q3,q4,q5⟩:=storeO_ok h hu' R e1
                      refine⟨.tuple #[],w',by rw[q1];exact .tuple .nil,q2,q3,q4,?_⟩
                      have hfl':(fl / Extern.ReflectliteValue.flagAddr % 2 == 0)=false:=by simpa[Extern.ReflectliteValue.flagAddr]using hfl
                      have hda:(Extern.Rtype.directlyAssignable dt.t st.t).run P w = .ok true w:=by
                       rw[hq]
                       have e:(st.t == st.t)=true:=by simp
                       simp only[Extern.Rtype.directlyAssignable,e,if_true,Sem.run_pure]
                      exact run_set (run_parts hX hp1 w) (run_parts hX hp2 w) hfl' hl hda q5
              · cases h
            · cases h
          · cases h
      · cases h
    · cases h
  · cases h
theorem memo_ok {cf:Cfg}(hX:XOk P cf)(hg:Fixes ρ cf.nb){E E':Operand→Value}{o:Oper}{v:Value}(h:memo cf E o=some v)(hE : ∀x∈o.op.operands,VR ρ (E x) (E' x)) :
 VR ρ v v∧∀w,(execOp E' o).run P w = .ok (.value v) w:=by
 obtain⟨dst,op,ty,pos,after,guard⟩:=o
 unfold memo at h
 cases op with
 | call c =>
    obtain⟨callee,cargs,ats⟩:=c
    cases callee with
    | invoke r m =>
       simp only at h
       obtain⟨x,hx,rfl⟩:=Option.map_eq_some_iff.1 h
       have hmem:=hX.2.2.1 x (List.mem_of_find?_eq_some hx)
       have hp:=List.find?_some (p:=fun x:Mm=>eqV 8 x.recv (E r) && eqVs x.args (cargs.toList.map E) && x.name == m) hx
       simp only[Bool.and_eq_true,beq_iff_eq]at hp
       obtain⟨⟨p1,p2⟩,p3⟩:=hp
       have p1:=eqV_eq 8 _ _ p1
       have p2:=eqVs_eq p2
       obtain⟨q1,q2,q3,q4⟩:=hmem
       have hr:=hE r (by simp[Op.operands,Call.operands])
       have hargs:VRs ρ (cargs.toList.map E) (cargs.toList.map E'):=VRs.mapV _ fun y hy=>hE y (by simp[Op.operands,Call.operands];exact .inr (by simpa using hy))
       rw[←p1]at hr
       rw[←p2]at hargs
       have e1:=VR.eq_of_fixd hg 8 _ _ q2 hr
       have e2:cargs.toList.map E'=x.args:=VRs.eq_of (VR.eq_of_fixd hg 8) q3 hargs
       refine⟨VR.of_fixd hg 8 _ q4,fun w=> ?_⟩
       have e3:cargs.map E'=⟨x.args⟩:=by rw[←Array.toList_inj];simp[e2]
       have hrun:=quiet_run q1 w
       rw[p3]at hrun
       simp[execOp,resolve,invoke,e1,e3,hrun]
    | _=>simp at h
 | _=>simp at h
end
end Go.Eng
set_option linter.unusedSectionVars false
namespace Go.Eng
open Go
inductive Tgt where
 | fn (f:FuncId)
 | round (l:Nat)
abbrev Caller:=Tgt→List Value→Tr VObj→Nat→Option Out
abbrev FR (ro:Option Nat):Fence:= { fn:=fun _=>True,depth:=none,alive:=false,round:=ro}
section
variable (P:Program)
def plainFn (f:FuncId):Bool :=
 match P.funcs[f]? with
 | some fn=> !(fn.name == "runtime.NumGoroutine") && fn.body.isSome
 | none=>false
def evCallee (cf:Cfg)(E:Operand→Value)(o:Oper):Option (Tgt × List Value) :=
 match o.op with
 | .call c =>
    match c.callee with
    | .value f =>
       match E f with
       | .func (.func g) ⟨first⟩ ⟨cap⟩=>if plainFn P g then some (.fn g,first++c.args.toList.map E++cap)else none
       | .func (.yield l) ⟨[]⟩ ⟨[]⟩=>some (.round l,c.args.toList.map E)
       | _=>none
    | .invoke _ _ =>
       if operandsFlat cf.nb E o then
        match quiet P (execOp E o)with
        | some (.enter g ⟨args⟩)=>if args.all (fixd cf.nb 8)then some (.fn g,args)else none
        | _=>none
       else none
    | _=>none
 | _=>none
inductive Kd where
 | p
 | r (n:Nat)
 | a
 | e
def isDefer:Op→Bool
 | .defer _=>true
 | _=>false
noncomputable def evSlow (cf:Cfg) (call:Caller) (E:Operand→Value) (H:Tr VObj) (next:Nat) (o:Oper):Option (Out × Kd) :=
 if isDefer o.op then none else
 match xkOf cf E o with
 | some (k,args) =>
    match xQ P cf k args with
    | some v=>some (⟨v,H,next,[]⟩, .p)
    | none =>
       match xR P cf k args H with
       | some (v,n)=>some (⟨v,H,next,[]⟩, .r n)
       | none =>
          match xA cf k args next with
          | some (v,ob)=>if next<1099511627775 then some (⟨v,Tr.put (some ob) wide H next,next+1,[]⟩, .a)else none
          | none =>
             match xS P cf k args H next with
             | some out=>some (out, .e)
             | none=>none
 | none =>
 match memo cf E o with
 | some v=>some (⟨v,H,next,[]⟩, .p)
 | none =>
 match evP P cf.nb E o with
 | some v=>some (⟨v,H,next,[]⟩, .p)
 | none =>
    match evR P E H o with
    | some (v,n)=>some (⟨v,H,next,[]⟩, .r n)
    | none =>
       match evL P E H o with
       | some (v,n)=>some (⟨v,H,next,[]⟩, .r n)
       | none =>
          match evA P E next o with
          | some (v,ob)=>if next<1099511627775 then some (⟨v,Tr.put (some ob) wide H next,next+1,[]⟩, .a)else none
          | none =>
             match evS P E H next o with
             | some out=>some (out, .e)
             | none =>
                match evX P E H next o with
                | some out=>some (out, .e)
                | none =>
                   match evT cf E H o with
                   | some (v,n)=>some (⟨v,H,next,[]⟩, .r n)
                   | none =>
                   match evCallee P cf E o with
                   | some (f,args)=>(call f args H next).map fun out=>(out, .e)
                   | none=>none
inductive Cl where
 | st
 | bin
 | ld
 | sto
 | al
 | cv
 | ot
def cls:Op→Cl
 | .move _ | .assign _ | .pick _ _ _ | .extract _ _ | .makeInterface _ _ | .makeFunc _ _ _ | .nilCheck _ | .field _ _ _ | .fieldAddr _ _ _ | .indexAddr _ _ _=> .st
 | .binOp _ _ _ _ _=> .bin
 | .load _ _=> .ld
 | .store _ _ _=> .sto
 | .alloc _ | .box _ _ | .makeSlice _ _ _ | .buildSlice _ _ _ | .makeMap _ _=> .al
 | .call c =>
    match c.callee with
    | .value _=> .cv
    | _=> .ot
 | _=> .ot
noncomputable def evOp (cf:Cfg) (call:Caller) (E:Operand→Value) (H:Tr VObj) (next:Nat) (o:Oper):Option (Out × Kd) :=
 match cls o.op with
 | .st =>
    match structV P E o.op with
    | some v=>some (⟨v,H,next,[]⟩, .p)
    | none=>evSlow P cf call E H next o
 | .bin =>
    match fastInt P E o.op with
    | some v=>if fixd cf.nb 8 v then some (⟨v,H,next,[]⟩, .p)else none
    | none=>evSlow P cf call E H next o
 | .ld =>
    match evR P E H o with
    | some (v,n)=>some (⟨v,H,next,[]⟩, .r n)
    | none=>evSlow P cf call E H next o
 | .sto =>
    match evS P E H next o with
    | some out=>some (out, .e)
    | none=>evSlow P cf call E H next o
 | .al =>
    match evA P E next o with
    | some (v,ob)=>if next<1099511627775 then some (⟨v,Tr.put (some ob) wide H next,next+1,[]⟩, .a)else none
    | none=>evSlow P cf call E H next o
 | .cv =>
    match xkOf cf E o with
    | some _=>evSlow P cf call E H next o
    | none =>
       match evCallee P cf E o with
       | some (f,args)=>(call f args H next).map fun out=>(out, .e)
       | none=>evSlow P cf call E H next o
 | .ot=>evSlow P cf call E H next o
end
structure Good [Base] (ρ:Ren) (H:Tr VObj) (next:Nat) (w:World) (out:Out) (v':Value) (ρ':Ren) (w':World):Prop where
 val:VR ρ' out.v v'
 post:Post ρ H.get w (fun n=>next≤n∧n<out.next) (· ∈ out.dirty) ρ' out.H.get w'
 rest : ∀n,¬(next≤n∧n<out.next)→n∉out.dirty→out.H.get n=H.get n
 le:next≤out.next
def TgtCalls (P:Program)(ρ:Ren):Tgt→Array Value→World→(Ending→World→Prop)→Prop
 | .fn f,args,w,R=>Calls P f args w R
 | .round l,args,w,R=>∃l' k,ρ l=some (l',k)∧∃f tmps assign body,(Instr.yield l' args).run P w = .ok (.round l' f tmps assign body) w∧∀ro,RoundIn (FR ro) 0 P l' f tmps assign body w R
def CallOk [Base] (P:Program)(cf:Cfg)(call:Caller):Prop:=XOk P cf ∧
 ∀(f:Tgt) (args:List Value) (H:Tr VObj) (next:Nat) (out:Out),call f args H next=some out →
  ∀(ρ:Ren) (w:World) (args':List Value),Rel ρ H.get w→(∀n,(H.get n).isSome→n<next)→(∀g,g<cf.nb→∃k,ρ g=some (g,k))→(∀n,next≤n→n<out.next→ρ n=none)→VRs ρ args args' →
  TgtCalls P ρ f ⟨args'⟩ w fun e w'=>∃v' ρ',e = .returned v'∧Good ρ H next w out v' ρ' w'
section
variable [Base] {P:Program} {ρ:Ren}
theorem callsIn_fr {ro:Option Nat}{n:Nat}{f:FuncId}{args:Array Value}{w:World}{R:Ending→World→Prop}(h:Calls P f args w R):CallsIn (FR ro) n P f args w R :=
 (callsIn_wide (n:=n)).2 h
theorem semAt_run {ro:Option Nat}{E:Operand→Value}{o:Oper}{w:World}{r:Result Next}(h:(execOp E o).run P w=r)(hd : ∀c,o.op≠ .defer c):(o.semAt ro E).run P w=r:=by
 rw[Oper.semAt_eq ro E o hd];exact h
theorem wpIn_value {ro:Option Nat}{o:Oper}{a:Act}{w w':World}{v:Value}{K:Act→World→Prop}{Q:Exit→Act→World→Prop}(hd : ∀c,o.op≠ .defer c)
 (h:(execOp a.eval o).run P w = .ok (.value v) w') (hK:K (a.put o.dst v) w'):o.wpIn (FR ro) 0 P a w K Q:=by
  refine⟨fun _ _=>trivial,?_⟩
  show o.uponIn (FR ro) 0 P a K Q ((o.semAt ro a.eval).run P w)
  rw[semAt_run h hd]
  exact hK
theorem wpIn_skipped {ro:Option Nat}{o:Oper}{a:Act}{w w':World}{K:Act→World→Prop}{Q:Exit→Act→World→Prop}(hd : ∀c,o.op≠ .defer c)
 (h:(execOp a.eval o).run P w = .ok .skip w') (hK:K (a.put o.dst undef) w'):o.wpIn (FR ro) 0 P a w K Q:=by
  refine⟨fun _ _=>trivial,?_⟩
  show o.uponIn (FR ro) 0 P a K Q ((o.semAt ro a.eval).run P w)
  rw[semAt_run h hd]
  exact hK
theorem evCallee_ok {cf:Cfg}{call:Caller}(hc:CallOk P cf call){ro:Option Nat}{o:Oper}{E:Operand→Value}{a:Act}{H:Tr VObj}{next:Nat}{f:Tgt}{args:List Value}{out:Out}{w:World}
 (h:evCallee P cf E o=some (f,args)) (ho:call f args H next=some out) (hE : ∀x∈o.op.operands,VR ρ (E x) (a.eval x)) (R:Rel ρ H.get w) (hb : ∀n,(H.get n).isSome→n<next) (hg : ∀g,g<cf.nb→∃k,ρ g=some (g,k)) (hfree : ∀n,next≤n→n<out.next→ρ n=none)
 {K:Act→World→Prop} {Q:Exit→Act→World→Prop} (hK : ∀v' w' ρ',Good ρ H next w out v' ρ' w'→K (a.put o.dst v') w'):o.wpIn (FR ro) 0 P a w K Q:=by
 obtain⟨dst,op,ty,pos,after,guard⟩:=o
 have fin : ∀g args',f = .fn g→VRs ρ args args'→(execOp a.eval ⟨dst,op,ty,pos,after,guard⟩).run P w = .ok (.enter g ⟨args'⟩) w→(∀c,op≠ .defer c) →
  (⟨dst,op,ty,pos,after,guard⟩:Oper).wpIn (FR ro) 0 P a w K Q:=by
   intro g args' hf hv hrun hd
   subst hf
   refine⟨fun _ _=>trivial,?_⟩
   show Oper.uponIn (FR ro) 0 P _ a K Q ((Oper.semAt ro a.eval _).run P w)
   rw[semAt_run hrun (by simpa using hd)]
   refine⟨fun h=>by simp at h,callsIn_fr ?_⟩
   refine Calls.mono (hc.2 _ _ _ _ _ ho ρ w args' R hb hg hfree hv) fun e w' he=> ?_
   obtain⟨v',ρ',rfl,hg⟩:=he
   exact hK v' w' ρ' hg
 unfold evCallee at h
 cases op with
 | call c =>
    obtain⟨callee,cargs,ats⟩:=c
    simp only at h
    cases callee with
    | value x =>
       have hx:=hE x (by simp[Op.operands,Call.operands])
       have hargs:VRs ρ (cargs.toList.map E) (cargs.toList.map a.eval):=VRs.mapV _ fun y hy=>hE y (by simp[Op.operands,Call.operands];exact .inr (by simpa using hy))
       simp only at h
       split at h
       · rename_i g first cap hv
         rw[hv]at hx
         split at h
         · rename_i hp
           simp only[Option.some.injEq,Prod.mk.injEq]at h
           obtain⟨rfl,rfl⟩:=h
           obtain⟨first',cap',h1,h2,he⟩:=hx.func_inv
           refine fin g _ rfl ((h1.append hargs).append h2) ?_ (by simp)
           unfold plainFn at hp
           cases hfn:P.funcs[g]? with
           | none=>simp[hfn]at hp
           | some fn =>
              simp only[hfn,Bool.and_eq_true,Bool.not_eq_true',beq_eq_false_iff_ne]at hp
              obtain⟨hne,hbody⟩:=hp
              have hnb:fn.body≠none:=by intro hbd;simp[hbd]at hbody
              have e:((⟨first'⟩:Array Value)++(cargs.map a.eval++⟨cap'⟩))=⟨first'++(cargs.toList.map a.eval++cap')⟩:=by rw[←Array.toList_inj];simp
              simp[execOp,resolve,he,Deferred.ofValue,invoke,callFunc,hfn,hne,hnb,e]
         · cases h
       · rename_i l hv
         rw[hv]at hx
         simp only[Option.some.injEq,Prod.mk.injEq]at h
         obtain⟨rfl,rfl⟩:=h
         have hy : ∃l' k,ρ l=some (l',k)∧a.eval x = .func (.yield l') #[] #[]:=by
          generalize a.eval x=z at hx
          cases hx with
          | atom h=>simp[Eng.atom]at h
          | func hf _ _=>simp[notYield]at hf
          | yield h=>exact⟨_,_,h,rfl⟩
         obtain⟨l',k,hl,he⟩:=hy
         obtain⟨l'',k',hl',fn,tmps,assign,body,hyr,hround⟩:=hc.2 _ _ _ _ _ ho ρ w _ R hb hg hfree hargs
         rw[hl]at hl';injection hl' with hl';injection hl' with hl' _;subst hl'
         refine⟨fun _ _=>trivial,?_⟩
         show Oper.uponIn (FR ro) 0 P _ a K Q ((Oper.semAt ro a.eval _).run P w)
         have hrun:(execOp a.eval ⟨dst, .call ⟨.value x,cargs,ats⟩,ty,pos,after,guard⟩).run P w = .ok (.round l' fn tmps assign body) w:=by
          have e:(⟨cargs.toList.map a.eval⟩:Array Value)=cargs.map a.eval:=by rw[←Array.toList_inj];simp
          rw[e]at hyr
          simp[execOp,resolve,he,Deferred.ofValue,invoke,hyr]
         rw[semAt_run hrun (by simp)]
         refine⟨fun h=>by simp at h,(hround ro).mono fun e w' he=> ?_⟩
         obtain⟨v',ρ',rfl,hg⟩:=he
         exact hK v' w' ρ' hg
       · cases h
    | invoke r m =>
       simp only at h
       split at h
       · rename_i hf
         split at h
         · rename_i g args0 hq
           split at h
           · rename_i hall
             simp only[Option.some.injEq,Prod.mk.injEq]at h
             obtain⟨rfl,rfl⟩:=h
             have hcg:execOp a.eval ⟨dst, .call ⟨.invoke r m,cargs,ats⟩,ty,pos,after,guard⟩=execOp E ⟨dst, .call ⟨.invoke r m,cargs,ats⟩,ty,pos,after,guard⟩ :=
              execOp_congr _ (fun cs b he=>by simp at he) fun x hx=>by
               refine VR.eq_of_fixd hg 8 _ _ ?_ (hE x hx)
               have h0:=hf
               unfold operandsFlat at h0
               rw[List.all_eq_true]at h0
               exact h0 x (by simpa using hx)
             refine fin g args0 rfl (VRs.refl_of (VR.of_fixd hg 8) hall) ?_ (by simp)
             rw[hcg];exact quiet_run hq w
           · cases h
         · cases h
       · cases h
    | builtin b=>simp at h
 | _=>simp at h
end
end Go.Eng
