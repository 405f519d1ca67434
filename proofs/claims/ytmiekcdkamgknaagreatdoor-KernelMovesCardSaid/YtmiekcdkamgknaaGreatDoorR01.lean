import Derived.Laws.AppendOwn
import Derived.Laws.BytesString
import Derived.RangeFuncLeaves
import Derived.RangeFuncNested
import Derived.RangeFuncRecord
import Derived.OrdersIn
import Derived.KernelRfl
import Derived.IntWalk
import Derived.Below
import Derived.Laws.Tables
import Derived.Stop.Asserts
set_option linter.unusedSectionVars false
namespace Go.Eng
open Go
inductive Tr (α:Type) where
 | nil
 | node (v:Option α) (l r:Tr α)
noncomputable def Tr.get {α:Type} (t:Tr α):Nat→Option α :=
 Tr.rec (fun _=>none) (fun v _ _ gl gr n=>cond (Nat.beq n 0) v (cond (Nat.beq (Nat.mod n 2) 1) (gl (Nat.div n 2)) (gr (Nat.pred (Nat.div n 2))))) t
noncomputable def Tr.put {α:Type} (x:Option α) (f:Nat):Tr α→Nat→Tr α :=
 Nat.rec (fun t _=>t)
  (fun _ p t n=>Tr.rec (cond (Nat.beq n 0) (.node x .nil .nil) (cond (Nat.beq (Nat.mod n 2) 1) (.node none (p .nil (Nat.div n 2)) .nil) (.node none .nil (p .nil (Nat.pred (Nat.div n 2))))))
    (fun v l r _ _=>cond (Nat.beq n 0) (.node x l r) (cond (Nat.beq (Nat.mod n 2) 1) (.node v (p l (Nat.div n 2)) r) (.node v l (p r (Nat.pred (Nat.div n 2)))))) t) f
theorem Tr.get_nil {α:Type}(n:Nat):(Tr.nil:Tr α).get n=none:=rfl
theorem Tr.get_node {α:Type}(v:Option α)(l r:Tr α)(n:Nat) :
 (Tr.node v l r).get n=cond (Nat.beq n 0) v (cond (Nat.beq (n % 2) 1) (l.get (n / 2)) (r.get (n / 2-1))):=rfl
theorem Tr.put_zero {α:Type}(x:Option α)(t:Tr α)(n:Nat):Tr.put x 0 t n=t:=rfl
theorem Tr.put_nil {α:Type}(x:Option α)(f n:Nat) :
 Tr.put x (f+1) .nil n=cond (Nat.beq n 0) (.node x .nil .nil) (cond (Nat.beq (n % 2) 1) (.node none (Tr.put x f .nil (n / 2)) .nil) (.node none .nil (Tr.put x f .nil (n / 2-1)))):=rfl
theorem Tr.put_node {α:Type}(x v:Option α)(l r:Tr α)(f n:Nat) :
 Tr.put x (f+1) (.node v l r) n=cond (Nat.beq n 0) (.node x l r) (cond (Nat.beq (n % 2) 1) (.node v (Tr.put x f l (n / 2)) r) (.node v l (Tr.put x f r (n / 2-1)))):=rfl
theorem Tr.get_put {α:Type}(x:Option α) : ∀(f:Nat) (t:Tr α) (n m:Nat),n<2 ^ f-1 →
 (Tr.put x f t n).get m=if m=n then x else t.get m:=by
  intro f
  induction f with
  | zero=>intro t n m h;simp at h
  | succ f ih =>
     intro t n m h
     have hb : ∀a b:Nat,Nat.beq a b=decide (a=b):=fun a b=>by
      cases h:Nat.beq a b with
      | true=>rw[decide_eq_true (Nat.eq_of_beq_eq_true h)]
      | false=>rw[decide_eq_false (Nat.ne_of_beq_eq_false h)]
     have e0 : ∀i:Nat,(Tr.nil:Tr α).get i=none:=fun _=>rfl
     have h2:2 ^ (f+1)=2*2 ^ f:=by rw[Nat.pow_succ];omega
     have hl:n % 2=1→n / 2<2 ^ f-1:=fun _=>by omega
     have hr:n≠0→n % 2≠1→n / 2-1<2 ^ f-1:=fun _ _=>by omega
     have main : ∀(v:Option α) (l r:Tr α),(cond (Nat.beq n 0) (Tr.node x l r) (cond (Nat.beq (n % 2) 1) (.node v (Tr.put x f l (n / 2)) r) (.node v l (Tr.put x f r (n / 2-1))))).get m =
      if m=n then x else(Tr.node v l r).get m:=by
      intro v l r
      by_cases n0:n=0
      · subst n0
        by_cases m0:m=0
        · subst m0;simp[hb,Tr.get_node]
        · simp[hb,Tr.get_node,m0]
      · by_cases n1:n % 2=1
        · simp only[hb,n0,n1,decide_true,decide_false,cond_true,cond_false,Tr.get_node,ih l (n / 2) (m / 2) (hl n1)]
          by_cases m0:m=0
          · subst m0;simp;intro e;exact absurd e.symm n0
          · by_cases m1:m % 2=1
            · by_cases e:m=n
              · subst e;simp[m0,m1]
              · have:m / 2≠n / 2:=by omega
                simp[m0,m1,e,this]
            · have e:m≠n:=fun e=>m1 (e▸n1)
              simp[m0,m1,e]
        · simp only[hb,n0,n1,decide_false,cond_false,Tr.get_node,ih r (n / 2-1) (m / 2-1) (hr n0 n1)]
          by_cases m0:m=0
          · subst m0;simp;intro e;exact absurd e.symm n0
          · by_cases m1:m % 2=1
            · have e:m≠n:=fun e=>n1 (e▸m1)
              simp[m0,m1,e]
            · by_cases e:m=n
              · subst e;simp[m0,m1]
              · have:m / 2-1≠n / 2-1:=by omega
                simp[m0,m1,e,this]
     cases t with
     | nil =>
        rw[Tr.put_nil]
        have:=main none .nil .nil
        simpa[Tr.get_node,e0]using this
     | node v l r=>rw[Tr.put_node];exact main v l r
theorem old_alloc (w:World)(o:Obj)(i:Nat)(h:i<w.heap.size):(w.alloc o).heap[i]? = w.heap[i]?:= by
 simp only[World.alloc,Array.getElem?_push]
 rw[if_neg (by omega)]
structure K where
 n:Nat
 v:Value
abbrev kn (n:Nat):K:=⟨n,undef⟩
instance (n:Nat):OfNat K n:=⟨⟨n,undef⟩⟩
abbrev Ren:=Nat→Option (Nat × K)
class Base where
 B0:Nat
 W0:World
 T:Nat→List Value→World→Prop
def far:Nat:=1180591620717411303424
def atom:Value→Bool
 | .bool _ | .int _ _ | .float _ _ | .complex _ _ _ | .string _ | .pointer none | .slice none _ _ | .map none | .chan none | .nilFunc | .nilIface=>true
 | _=>false
def notYield:Fn→Bool
 | .yield _=>false
 | _=>true
mutual
inductive VR (ρ:Ren):Value→Value→Prop
 | atom {v:Value} (h:atom v=true):VR ρ v v
 | ptr {b o b':Nat} {k:K} {s:Option Nat} (h:ρ b=some (b',k)):VR ρ (.pointer (some ⟨b,o,s⟩)) (.pointer (some ⟨b',o,s⟩))
 | slice {b o b' n c:Nat} {k:K} (h:ρ b=some (b',k)) (hc:c≠far):VR ρ (.slice (some ⟨b,o,none⟩) n c) (.slice (some ⟨b',o,none⟩) n c)
 | loose {b o b' n c:Nat} {k:K} (h:ρ b=some (b',k)) (hn:n≤c) (ho:o=0→c=k.n):VR ρ (.slice (some ⟨b,o,none⟩) n far) (.slice (some ⟨b',o,none⟩) n c)
 | empty {a:Addr} {c:Nat}:VR ρ (.slice (some ⟨far,0,none⟩) 0 far) (.slice (some a) 0 c)
 | map {b b':Nat} {k:K} (h:ρ b=some (b',k)):VR ρ (.map (some b)) (.map (some b'))
 | func {fn:Fn} {a a' c c':List Value} (hf:notYield fn=true) (ha:VRs ρ a a') (hc:VRs ρ c c'):VR ρ (.func fn ⟨a⟩ ⟨c⟩) (.func fn ⟨a'⟩ ⟨c'⟩)
 | yield {l l':Nat} {k:K} (h:ρ l=some (l',k)):VR ρ (.func (.yield l) #[] #[]) (.func (.yield l') #[] #[])
 | iface {t:TypeId} {v v':Value} (h:VR ρ v v'):VR ρ (.iface t v) (.iface t v')
 | sym {n b:Nat} {k:K} {v:Value} (h:ρ n=some (b,k)) (e:v=k.v) (hc:v.cells = #[v]) (ho:v.oneCell'=true) (hb : ∀b,v≠ .bool b):VR ρ (.chan (some n)) v
 | agg {a a':List Value} (h:VRs ρ a a'):VR ρ (.agg ⟨a⟩) (.agg ⟨a'⟩)
 | tuple {a a':List Value} (h:VRs ρ a a'):VR ρ (.tuple ⟨a⟩) (.tuple ⟨a'⟩)
inductive VRs (ρ:Ren):List Value→List Value→Prop
 | nil:VRs ρ [] []
 | cons {v v':Value} {l l':List Value} (h:VR ρ v v') (t:VRs ρ l l'):VRs ρ (v::l) (v'::l')
end
def Sub (ρ ρ':Ren):Prop:=∀n x,ρ n=some x→ρ' n=some x
mutual
theorem VR.mono {ρ ρ':Ren}(hs:Sub ρ ρ') : ∀ {v v':Value},VR ρ v v'→VR ρ' v v'
 | _,_, .atom h=> .atom h
 | _,_, .ptr h=> .ptr (hs _ _ h)
 | _,_, .slice h hc=> .slice (hs _ _ h) hc
 | _,_, .loose h hn ho=> .loose (hs _ _ h) hn ho
 | _,_, .empty=> .empty
 | _,_, .map h=> .map (hs _ _ h)
 | _,_, .func hf ha hc=> .func hf (VRs.mono hs ha) (VRs.mono hs hc)
 | _,_, .yield h=> .yield (hs _ _ h)
 | _,_, .iface h=> .iface (VR.mono hs h)
 | _,_, .sym h e hc ho hb=> .sym (hs _ _ h) e hc ho hb
 | _,_, .agg h=> .agg (VRs.mono hs h)
 | _,_, .tuple h=> .tuple (VRs.mono hs h)
theorem VRs.mono {ρ ρ':Ren}(hs:Sub ρ ρ') : ∀ {l l':List Value},VRs ρ l l'→VRs ρ' l l'
 | _,_, .nil=> .nil
 | _,_, .cons h t=> .cons (VR.mono hs h) (VRs.mono hs t)
end
theorem VRs.length {ρ:Ren}{l l':List Value}(h:VRs ρ l l'):l'.length=l.length:=by
 induction l generalizing l' with
 | nil=>cases h;rfl
 | cons v l ih=>cases h with | cons _ t=>simp[ih t]
theorem VRs.get {ρ:Ren} : ∀ {l l':List Value},VRs ρ l l'→∀ {i:Nat} {v:Value},l[i]? = some v→∃v',l'[i]? = some v'∧VR ρ v v'
 | [],_,_,i,v,hv=>by simp at hv
 | x::l,_, .cons h t,0,v,hv=>by simp at hv;subst hv;exact⟨_,rfl,h⟩
 | x::l,_, .cons h t,i+1,v,hv=>by simp at hv;simpa using VRs.get t hv
theorem VRs.append {ρ:Ren}{l l' m m':List Value}(h:VRs ρ l l')(g:VRs ρ m m'):VRs ρ (l++m) (l'++m'):=by
 induction l generalizing l' with
 | nil=>cases h;exact g
 | cons v l ih=>cases h with | cons hv t=>exact .cons hv (ih t)
theorem VRs.take {ρ:Ren} : ∀(n:Nat) {l l':List Value},VRs ρ l l'→VRs ρ (l.take n) (l'.take n)
 | 0,_,_,_=>by simp;exact .nil
 | n+1,[],_, .nil=>by simp;exact .nil
 | n+1,_::_,_, .cons h t=>by simp;exact .cons h (VRs.take n t)
theorem VRs.drop {ρ:Ren} : ∀(n:Nat) {l l':List Value},VRs ρ l l'→VRs ρ (l.drop n) (l'.drop n)
 | 0,_,_,h=>by simpa using h
 | n+1,[],_, .nil=>by simp;exact .nil
 | n+1,_::_,_, .cons h t=>by simpa using VRs.drop n t
theorem VRs.set {ρ:Ren}{v v':Value}(hv:VR ρ v v') : ∀(n:Nat) {l l':List Value},VRs ρ l l'→VRs ρ (l.set n v) (l'.set n v')
 | _,[],_, .nil=>by simp;exact .nil
 | 0,_::_,_, .cons h t=>by simp;exact .cons hv t
 | n+1,_::_,_, .cons h t=>by simp;exact .cons h (VRs.set hv n t)
def flat:Nat→Value→Bool
 | 0,_=>false
 | _+1, .bool _=>true
 | _+1, .int _ _=>true
 | _+1, .float _ _=>true
 | _+1, .complex _ _ _=>true
 | _+1, .string _=>true
 | _+1, .pointer none=>true
 | _+1, .slice none _ _=>true
 | _+1, .map none=>true
 | _+1, .chan none=>true
 | _+1, .nilFunc=>true
 | _+1, .nilIface=>true
 | n+1, .iface _ v=>flat n v
 | n+1, .agg ⟨l⟩=>l.all (flat n)
 | n+1, .tuple ⟨l⟩=>l.all (flat n)
 | n+1, .func fn ⟨a⟩ ⟨c⟩=>notYield fn && a.all (flat n) && c.all (flat n)
 | _+1,_=>false
theorem VRs.refl_of {ρ:Ren}{f:Value→Bool}(hf : ∀v,f v=true→VR ρ v v) : ∀ {l:List Value},l.all f=true→VRs ρ l l
 | [],_=> .nil
 | v::l,h=>by simp at h;exact .cons (hf v h.1) (VRs.refl_of hf (by simpa using h.2))
theorem VR.of_flat {ρ:Ren} : ∀(n:Nat) (v:Value),flat n v=true→VR ρ v v:=by
 intro n
 induction n with
 | zero=>intro v h;simp[flat]at h
 | succ n ih =>
    intro v h
    cases v with
    | pointer a=>cases a with | none=>exact .atom rfl | some a=>simp[flat]at h
    | slice a k c=>cases a with | none=>exact .atom rfl | some a=>simp[flat]at h
    | map a=>cases a with | none=>exact .atom rfl | some a=>simp[flat]at h
    | chan a=>cases a with | none=>exact .atom rfl | some a=>simp[flat]at h
    | iface t v=>exact .iface (ih v h)
    | agg a=>obtain⟨l⟩:=a;exact .agg (VRs.refl_of ih h)
    | tuple a=>obtain⟨l⟩:=a;exact .tuple (VRs.refl_of ih h)
    | func fn a c =>
       obtain⟨l⟩:=a;obtain⟨m⟩:=c
       simp only[flat,Bool.and_eq_true]at h
       exact .func h.1.1 (VRs.refl_of ih h.1.2) (VRs.refl_of ih h.2)
    | _=>exact .atom rfl
theorem VRs.eq_of {ρ:Ren}{f:Value→Bool}(hf : ∀v v',f v=true→VR ρ v v'→v'=v) : ∀ {l l':List Value},l.all f=true→VRs ρ l l'→l'=l
 | [],_,_, .nil=>rfl
 | v::l,_,h, .cons hv t=>by simp at h;rw[hf v _ h.1 hv,VRs.eq_of hf (by simpa using h.2) t]
theorem VR.eq_of_flat {ρ:Ren} : ∀(n:Nat) (v v':Value),flat n v=true→VR ρ v v'→v'=v:=by
 intro n
 induction n with
 | zero=>intro v v' h;simp[flat]at h
 | succ n ih =>
    intro v v' h hv
    cases hv with
    | atom _=>rfl
    | ptr _=>simp[flat]at h
    | slice _ _=>simp[flat]at h
    | loose _ _ _=>simp[flat]at h
    | empty=>simp[flat]at h
    | map _=>simp[flat]at h
    | yield _=>simp[flat,notYield]at h
    | sym _ _ _ _ _=>simp[flat]at h
    | func hf ha hc =>
       simp only[flat,Bool.and_eq_true]at h
       rw[VRs.eq_of ih h.1.2 ha,VRs.eq_of ih h.2 hc]
    | iface hx=>rw[ih _ _ h hx]
    | agg hx=>rw[VRs.eq_of ih h hx]
    | tuple hx=>rw[VRs.eq_of ih h hx]
def fixd (nb:Nat):Nat→Value→Bool
 | 0,_=>false
 | _+1, .bool _=>true
 | _+1, .int _ _=>true
 | _+1, .float _ _=>true
 | _+1, .complex _ _ _=>true
 | _+1, .string _=>true
 | _+1, .pointer none=>true
 | _+1, .pointer (some a)=>Nat.blt a.block nb
 | _+1, .slice none _ _=>true
 | _+1, .map none=>true
 | _+1, .chan none=>true
 | _+1, .nilFunc=>true
 | _+1, .nilIface=>true
 | n+1, .iface _ v=>fixd nb n v
 | n+1, .agg ⟨l⟩=>l.all (fixd nb n)
 | n+1, .tuple ⟨l⟩=>l.all (fixd nb n)
 | n+1, .func fn ⟨a⟩ ⟨c⟩=>notYield fn && a.all (fixd nb n) && c.all (fixd nb n)
 | _+1,_=>false
def Fixes (ρ:Ren)(nb:Nat):Prop:=∀g,g<nb→∃k,ρ g=some (g,k)
theorem VR.of_fixd {ρ:Ren}{nb:Nat}(hg:Fixes ρ nb) : ∀(n:Nat) (v:Value),fixd nb n v=true→VR ρ v v:=by
 intro n
 induction n with
 | zero=>intro v h;simp[fixd]at h
 | succ n ih =>
    intro v h
    cases v with
    | pointer a =>
       cases a with
       | none=>exact .atom rfl
       | some a =>
          obtain⟨k,hk⟩:=hg a.block (by simpa[fixd,Nat.blt_eq]using h)
          exact .ptr hk
    | slice a k c=>cases a with | none=>exact .atom rfl | some a=>simp[fixd]at h
    | map a=>cases a with | none=>exact .atom rfl | some a=>simp[fixd]at h
    | chan a=>cases a with | none=>exact .atom rfl | some a=>simp[fixd]at h
    | iface t v=>exact .iface (ih v h)
    | agg a=>obtain⟨l⟩:=a;exact .agg (VRs.refl_of ih h)
    | tuple a=>obtain⟨l⟩:=a;exact .tuple (VRs.refl_of ih h)
    | func fn a c =>
       obtain⟨l⟩:=a;obtain⟨m⟩:=c
       simp only[fixd,Bool.and_eq_true]at h
       exact .func h.1.1 (VRs.refl_of ih h.1.2) (VRs.refl_of ih h.2)
    | _=>exact .atom rfl
theorem VR.eq_of_fixd {ρ:Ren}{nb:Nat}(hg:Fixes ρ nb) : ∀(n:Nat) (v v':Value),fixd nb n v=true→VR ρ v v'→v'=v:=by
 intro n
 induction n with
 | zero=>intro v v' h;simp[fixd]at h
 | succ n ih =>
    intro v v' h hv
    cases hv with
    | atom _=>rfl
    | ptr hr =>
       obtain⟨k,hk⟩:=hg _ (by simpa[fixd,Nat.blt_eq]using h)
       rw[hk]at hr
       injection hr with hr
       injection hr with hr _
       rw[hr]
    | slice _ _=>simp[fixd]at h
    | loose _ _ _=>simp[fixd]at h
    | empty=>simp[fixd]at h
    | map _=>simp[fixd]at h
    | yield _=>simp[fixd,notYield]at h
    | sym _ _ _ _ _=>simp[fixd]at h
    | func hf ha hc =>
       simp only[fixd,Bool.and_eq_true]at h
       rw[VRs.eq_of ih h.1.2 ha,VRs.eq_of ih h.2 hc]
    | iface hx=>rw[ih _ _ h hx]
    | agg hx=>rw[VRs.eq_of ih h hx]
    | tuple hx=>rw[VRs.eq_of ih h hx]
def quiet (P:Program){α:Type}:Sem α→Option α
 | .pure a=>some a
 | .program k=>quiet P (k P)
 | .mark _ k=>quiet P k
 | _=>none
theorem quiet_run {P:Program}{α:Type}{m:Sem α}{a:α}(h:quiet P m=some a)(w:World):m.run P w = .ok a w:=by
 induction m generalizing w with
 | pure b=>simp[quiet]at h;subst h;rfl
 | program k ih=>simp only[quiet]at h;simpa[Sem.run]using ih P h w
 | mark m k ih=>simp only[quiet]at h;simpa[Sem.run]using ih h w
 | _=>simp[quiet]at h
inductive VObj where
 | row (cells:List Value) (elem:TypeId) (loose:Option Nat) (fr:Nat × Nat)
 | mp (es:List MapEntry) (clock:Nat)
 | lp (state:LoopState) (pending:Option Code) (nt:Nat) (T:Tr Value) (ps:List Tmp) (assign body:Code) (defers:Nat)
 | ro (cells:List Value) (bare:Bool)
 | other (o:Obj)
 | tk (i m:Nat) (p:Bool)
 deriving Inhabited
def wrO:Option VObj→Bool
 | none=>false
 | some (.ro _ _)=>false
 | some (.tk _ _ _)=>false
 | _=>true
def bl:Option VObj→Bool
 | none=>false
 | some (.tk _ _ p)=> !p
 | _=>true
theorem wr_some {o:Option VObj}(h:wrO o=true):o.isSome=true:=by cases o<;>simp_all [wrO]
theorem bl_some {o:Option VObj}(h:bl o=true):o.isSome=true:=by cases o<;>simp_all [bl]
theorem wr_bl {o:Option VObj}(h:wrO o=true):bl o=true:=by
 cases o with
 | none=>simp[wrO]at h
 | some o=>cases o<;>simp_all [wrO,bl]
inductive MR (ρ:Ren):List MapEntry→List MapEntry→Prop
 | nil:MR ρ [] []
 | cons {k v v':Value} {b:Nat} {l l':List MapEntry} (h:VR ρ v v') (t:MR ρ l l'):MR ρ (⟨k,v,b⟩::l) (⟨k,v',b⟩::l')
theorem MR.mono {ρ ρ':Ren}(hs:Sub ρ ρ'){l l':List MapEntry}(h:MR ρ l l'):MR ρ' l l':=by
 induction h with
 | nil=>exact .nil
 | cons h _ ih=>exact .cons (h.mono hs) ih
theorem MR.push {ρ:Ren}{k v v':Value}{b:Nat}(hv:VR ρ v v'){l l':List MapEntry}(h:MR ρ l l'):MR ρ (l++ [⟨k,v,b⟩]) (l'++ [⟨k,v',b⟩]):=by
 induction h with
 | nil=>exact .cons hv .nil
 | cons h _ ih=>exact .cons h ih
section
variable [Base]
def HR1 (ρ:Ren)(n:Nat)(o:VObj)(w:World):Prop :=
 ∃b k,ρ n=some (b,k) ∧
  match o with
  | .row cs e lo fr=>∃c',w.heap[b]? = some (.cells c' e fr)∧VRs ρ cs (c'.toList.take cs.length)∧cs.length≤c'.size ∧
     (match lo with
       | none=>c'.size=cs.length
       | some z=>c'.size=k.n*z∧fr=(0,0)∧k.n≤maxLen)
  | .mp es clock=>∃es',w.heap[b]? = some (.map ⟨es'⟩ clock)∧MR ρ es es'
  | .lp state pending nt T ps assign body defers=>∃fn tmps D' kD,w.heap[b]? = some (.loop { state,pending,fn,tmps,params:=⟨ps⟩,assign,body,defers:=D'})∧tmps.size=nt ∧
     (∀t,VR ρ ((T.get t).getD undef) (tmps.getD t undef))∧ρ defers=some (D',kD)
  | .ro cs z=>∃c' e fr,w.heap[b]? = some (.cells c' e fr)∧VRs ρ cs (c'.toList.take cs.length)∧cs.length≤c'.size∧(z=true→fr=(0,0))
  | .other ob=>w.heap[b]? = some ob
  | .tk i m p=>∃L:List Value,L.length=m∧(∀d v,L[d]? = some v→∃b k,ρ (n+d)=some (b,k)∧k.v=v)∧RowKit.Below Base.B0 Base.W0 w∧(p=false→b<w.heap.size) ∧
     ∀w',RowKit.Below Base.B0 Base.W0 w'→w.heap.size≤w'.heap.size→(p=false→w'.heap[b]? = w.heap[b]?)→Base.T i L w'
def LT (ρ:Ren)(w:World):Prop:=Base.B0≤w.heap.size∧∀n b k,ρ n=some (b,k)→k.n=far∨b<w.heap.size
structure Rel (ρ:Ren) (H:Nat→Option VObj) (w:World):Prop where
 hr : ∀n o,H n=some o→HR1 ρ n o w
 inj : ∀n m b k k',bl (H n)=true→bl (H m)=true→ρ n=some (b,k)→ρ m=some (b,k')→n=m
 lt:LT ρ w
 own : ∀n b k,wrO (H n)=true→ρ n=some (b,k)→Base.B0≤b
theorem HR1.live {ρ:Ren}{n b:Nat}{k:K}{o:VObj}{w:World}(h:HR1 ρ n o w)(hl:bl (some o)=true)(hb:ρ n=some (b,k)):b<w.heap.size:=by
 obtain⟨b',k',h1,h⟩:=h
 rw[hb]at h1;injection h1 with h1;injection h1 with h1 _;subst h1
 have key : ∀ {o:Obj},w.heap[b]? = some o→b<w.heap.size:=fun h=>(Array.getElem?_eq_some_iff.1 h).1
 cases o with
 | row cs e lo fr=>obtain⟨c',h, -⟩:=h;exact key h
 | mp es clock=>obtain⟨es',h, -⟩:=h;exact key h
 | lp st pe nt T ps as bo de=>obtain⟨fn,tmps,D',kD,h, -⟩:=h;exact key h
 | ro cs z=>obtain⟨c',e,fr,h, -⟩:=h;exact key h
 | other ob=>exact key h
 | tk i m p=>obtain⟨L, -, -, -,h, -⟩:=h;exact h (by simpa[bl]using hl)
theorem Rel.live {ρ:Ren}{H:Nat→Option VObj}{w:World}(R:Rel ρ H w){n b:Nat}{k:K}(hn:bl (H n)=true)(hb:ρ n=some (b,k)):b<w.heap.size:=by
 obtain⟨o,ho⟩:=Option.isSome_iff_exists.1 (bl_some hn)
 exact(R.hr n o ho).live (ho▸hn) hb
structure Post (ρ:Ren) (H:Nat→Option VObj) (w:World) (C D:Nat→Prop) (ρ':Ren) (H':Nat→Option VObj) (w':World):Prop where
 ren : ∀n,¬C n→ρ' n=ρ n
 lt:LT ρ' w'
 hr : ∀n o,C n∨D n→H' n=some o→HR1 ρ' n o w'
 new : ∀n b k,C n∨D n→bl (H' n)=true→ρ' n=some (b,k)→w.heap.size≤b∨∃d k',D d∧ρ d=some (b,k')
 inj : ∀n m b k k',C n∨D n→C m∨D m→bl (H' n)=true→bl (H' m)=true→ρ' n=some (b,k)→ρ' m=some (b,k')→n=m
 frame : ∀b,b<w.heap.size→(∀d k,D d→ρ d≠some (b,k))→w'.heap[b]? = w.heap[b]?
 live : ∀d,D d→wrO (H d)=true
 free : ∀n,C n→ρ n=none
 os:w'.os=w.os
 tape:w'.tape=w.tape
 output:w'.output=w.output
 size:w.heap.size≤w'.heap.size
theorem Post.sub {ρ:Ren}{H:Nat→Option VObj}{w:World}{C D:Nat→Prop}{ρ':Ren}{H':Nat→Option VObj}{w':World}
 (h:Post ρ H w C D ρ' H' w'):Sub ρ ρ':=fun n x hx=>by
  by_cases hc:C n
  · rw[h.free n hc]at hx;cases hx
  · rw[h.ren n hc];exact hx
theorem HR1.keep {ρ ρ':Ren}{n:Nat}{o:VObj}{w w':World}(h:HR1 ρ n o w)(hs:Sub ρ ρ')
 (hB:RowKit.Below Base.B0 w w') (hb : ∀b k,bl (some o)=true→ρ n=some (b,k)→w'.heap[b]? = w.heap[b]?):HR1 ρ' n o w':=by
  obtain⟨b,k,hn,h⟩:=h
  refine⟨b,k,hs _ _ hn,?_⟩
  have e:=fun h=>hb b k h hn
  by_cases hbl:bl (some o)=true
  case neg =>
   cases o with
   | tk i m p =>
      obtain⟨L,h1,h2,h3,h4,h5⟩:=h
      have hp:p=true:=by simpa[bl]using hbl
      subst hp
      exact⟨L,h1,fun d v hd=>(h2 d v hd).imp fun b h=>h.imp fun k h=>⟨hs _ _ h.1,h.2⟩,h3.trans hB,fun h=>by(cases h),fun w2 g1 g2 g3=>h5 w2 g1 (Nat.le_trans hB.size g2) fun h=>by(cases h)⟩
   | _=>simp[bl]at hbl
  replace e:=e hbl
  cases o with
  | row cs e' lo fr =>
     obtain⟨c',h1,h2,h3⟩:=h
     exact⟨c',by rw[e];exact h1,h2.mono hs,h3⟩
  | mp es clock=>obtain⟨es',h1,h2⟩:=h;exact⟨es',by rw[e];exact h1,h2.mono hs⟩
  | lp st pe nt T ps as bo de=>obtain⟨fn,tmps,D',kD,h1,h2,h3,h4⟩:=h;exact⟨fn,tmps,D',kD,by rw[e];exact h1,h2,fun t=>(h3 t).mono hs,hs _ _ h4⟩
  | ro cs z=>obtain⟨c',e',fr,h1,h2,h3⟩:=h;exact⟨c',e',fr,by rw[e];exact h1,h2.mono hs,h3⟩
  | other ob=>exact by simpa[e]using h
  | tk i m p =>
     obtain⟨L,h1,h2,h3,h4,h5⟩:=h
     exact⟨L,h1,fun d v hd=>(h2 d v hd).imp fun b h=>h.imp fun k h=>⟨hs _ _ h.1,h.2⟩,h3.trans hB,fun hp=>Nat.lt_of_lt_of_le (h4 hp) hB.size,fun w2 g1 g2 g3=>h5 w2 g1 (Nat.le_trans hB.size g2) fun hp=>(g3 hp).trans e⟩
theorem Post.base {ρ ρ':Ren}{H H₁ H':Nat→Option VObj}{w w':World}{C D:Nat→Prop}(h:Post ρ H w C D ρ' H' w')(R:Rel ρ H₁ w)(hG : ∀n,(H n).isSome→H n=H₁ n):RowKit.Below Base.B0 w w' :=
 ⟨h.os,h.tape,h.output,h.size,fun b hb=>h.frame b (Nat.lt_of_lt_of_le hb R.lt.1) fun d k hd he=>by
  have hl:=h.live d hd
  have:=R.own d b k (hG d (wr_some hl)▸hl) he
  omega⟩
open Classical in
theorem Post.andThen {ρ ρ₁ ρ₂:Ren}{H H₁ G G':Nat→Option VObj}{w w₁ w₂:World}{C₁ D₁ C₂ D₂:Nat→Prop}
 (h1:Post ρ H w C₁ D₁ ρ₁ H₁ w₁) (hH : ∀n,¬C₁ n→¬D₁ n→H₁ n=H n) (R1:Rel ρ₁ H₁ w₁) (hG : ∀n,(G n).isSome→G n=H₁ n)
 (h2:Post ρ₁ G w₁ C₂ D₂ ρ₂ G' w₂) (hfree : ∀n,C₂ n→ρ n=none) :
 Rel ρ₂ (fun n=>if C₂ n∨D₂ n then G' n else H₁ n) w₂ ∧
 Post ρ H w (fun n=>C₁ n∨C₂ n) (fun n=>D₁ n∨(D₂ n∧¬C₁ n)) ρ₂ (fun n=>if C₂ n∨D₂ n then G' n else H₁ n) w₂:=by
 have liveG : ∀d,D₂ d→wrO (H₁ d)=true:=fun d hd=>by rw[←hG d (wr_some (h2.live d hd))];exact h2.live d hd
 have hB:=h2.base R1 hG
 have notC : ∀n,(H₁ n).isSome→¬C₂ n:=fun n hn hc=>by
  obtain⟨o,ho⟩:=Option.isSome_iff_exists.1 hn
  obtain⟨b,k,hb,_⟩:=R1.hr n o ho
  rw[h2.free n hc]at hb;cases hb
 have old : ∀n o,¬(C₂ n∨D₂ n)→H₁ n=some o→HR1 ρ₂ n o w₂:=fun n o hn ho=>by
  refine(R1.hr n o ho).keep h2.sub hB fun b k hl hb=>h2.frame b (R1.live (ho▸hl) hb) fun d k' hd he=> ?_
  have:=R1.inj n d b k k' (ho▸hl) (wr_bl (liveG d hd)) hb he
  exact hn (.inr (this▸hd))
 have keepB : ∀n b k,¬(C₂ n∨D₂ n)→bl (H₁ n)=true→ρ₂ n=some (b,k)→ρ₁ n=some (b,k):=fun n b k hn _ hb=>by
  rw[h2.ren n fun c=>hn (.inl c)]at hb;exact hb
 have inj₂ : ∀n m b k k',bl ((if C₂ n∨D₂ n then G' n else H₁ n))=true→bl ((if C₂ m∨D₂ m then G' m else H₁ m))=true→ρ₂ n=some (b,k)→ρ₂ m=some (b,k')→n=m:=by
  have cross : ∀n m b k k',(C₂ n∨D₂ n)→¬(C₂ m∨D₂ m)→bl (G' n)=true→bl (H₁ m)=true→ρ₂ n=some (b,k)→ρ₂ m=some (b,k')→False:=by
   intro n m b k k' hn hm ln lm bn bm
   have bm':=keepB m b k' hm lm bm
   rcases h2.new n b k hn ln bn with hge | ⟨d,kd,hd,he⟩
   · have:=R1.live lm bm';omega
   · have:=R1.inj d m b kd k' (wr_bl (liveG d hd)) lm he bm'
     exact hm (.inr (this▸hd))
  intro n m b k k' ln lm bn bm
  by_cases hn:C₂ n∨D₂ n<;>by_cases hm:C₂ m∨D₂ m
  · rw[if_pos hn]at ln;rw[if_pos hm]at lm;exact h2.inj n m b k k' hn hm ln lm bn bm
  · rw[if_pos hn]at ln;rw[if_neg hm]at lm;exact(cross n m b k k' hn hm ln lm bn bm).elim
  · rw[if_neg hn]at ln;rw[if_pos hm]at lm;exact(cross m n b k' k hm hn lm ln bm bn).elim
  · rw[if_neg hn]at ln;rw[if_neg hm]at lm
    exact R1.inj n m b k k' ln lm (keepB n b k hn ln bn) (keepB m b k' hm lm bm)
 have hr₂ : ∀n o,(if C₂ n∨D₂ n then G' n else H₁ n)=some o→HR1 ρ₂ n o w₂:=fun n o ho=>by
  by_cases hn:C₂ n∨D₂ n
  · rw[if_pos hn]at ho;exact h2.hr n o hn ho
  · rw[if_neg hn]at ho;exact old n o hn ho
 have own₂ : ∀n b k,wrO (if C₂ n∨D₂ n then G' n else H₁ n)=true→ρ₂ n=some (b,k)→Base.B0≤b:=fun n b k hn hb=>by
  by_cases h:C₂ n∨D₂ n
  · rw[if_pos h]at hn
    rcases h2.new n b k h (wr_bl hn) hb with hge | ⟨d,kd,hd,he⟩
    · exact Nat.le_trans R1.lt.1 hge
    · exact R1.own d b kd (liveG d hd) he
  · rw[if_neg h]at hn
    exact R1.own n b k hn (keepB n b k h (wr_bl hn) hb)
 refine⟨⟨hr₂,inj₂,h2.lt,own₂⟩,?_⟩
 constructor
 · intro n hn
   rw[h2.ren n fun c=>hn (.inr c),h1.ren n fun c=>hn (.inl c)]
 · exact h2.lt
 · exact fun n o _ ho=>hr₂ n o ho
 · intro n b k hn ln hb
   by_cases h:C₂ n∨D₂ n
   · simp only[if_pos h]at ln
     rcases h2.new n b k h ln hb with hge | ⟨d,kd,hd,he⟩
     · exact .inl (Nat.le_trans h1.size hge)
     · by_cases hc:C₁ d∨D₁ d
       · rcases h1.new d b kd hc (wr_bl (liveG d hd)) he with hge | ⟨d',k',hd',he'⟩
         · exact .inl hge
         · exact .inr ⟨d',k', .inl hd',he'⟩
       · refine .inr ⟨d,kd, .inr ⟨hd,fun c=>hc (.inl c)⟩,?_⟩
         rw[←h1.ren d fun c=>hc (.inl c)];exact he
   · simp only[if_neg h]at ln
     have hb':=keepB n b k h ln hb
     have hcd:C₁ n∨D₁ n:=by
      rcases hn with(c | c) | (d | d)
      · exact .inl c
      · exact absurd (.inl c) h
      · exact .inr d
      · exact absurd (.inr d.1) h
     rcases h1.new n b k hcd ln hb' with hge | ⟨d',k',hd',he'⟩
     · exact .inl hge
     · exact .inr ⟨d',k', .inl hd',he'⟩
 · intro n m b k k' _ _ ln lm bn bm
   exact inj₂ n m b k k' ln lm bn bm
 · intro b hb hd
   rw[h2.frame b (Nat.lt_of_lt_of_le hb h1.size) fun d k hd₂ he=> ?_,h1.frame b hb fun d k hd₁=>hd d k (.inl hd₁)]
   by_cases hc:C₁ d∨D₁ d
   · rcases h1.new d b k hc (wr_bl (liveG d hd₂)) he with hge | ⟨d',k',hd',he'⟩
     · omega
     · exact hd d' k' (.inl hd') he'
   · refine hd d k (.inr ⟨hd₂,fun c=>hc (.inl c)⟩) ?_
     rw[←h1.ren d fun c=>hc (.inl c)];exact he
 · intro d hd
   rcases hd with hd | ⟨hd,hc⟩
   · exact h1.live d hd
   · by_cases h:D₁ d
     · exact h1.live d h
     · rw[←hH d hc h];exact liveG d hd
 · intro n hn
   rcases hn with c | c
   · exact h1.free n c
   · exact hfree n c
 · rw[h2.os,h1.os]
 · rw[h2.tape,h1.tape]
 · rw[h2.output,h1.output]
 · exact Nat.le_trans h1.size h2.size
theorem Post.refl {ρ:Ren}{H:Nat→Option VObj}{w:World}(h:Rel ρ H w):Post ρ H w (fun _=>False) (fun _=>False) ρ H w where
 ren _ _:=rfl
 lt:=h.lt
 hr n o hn:=by simp at hn
 new n b k hn:=by simp at hn
 inj n m b k k' hn:=by simp at hn
 frame _ _ _:=rfl
 live d hd:=hd.elim
 free n hn:=hn.elim
 os:=rfl
 tape:=rfl
 output:=rfl
 size:=Nat.le_refl _
end
end Go.Eng
set_option linter.unusedSectionVars false
namespace Go.Eng
open Go
section
variable (P:Program)
def isAggB (t:TypeId):Bool :=
 match P.underlying t with
 | some (.struct _) | some (.array _ _)=>true
 | _=>false
def partV (t:TypeId)(cs:List Value)(off:Nat):Option Value :=
 match P.underlying t with
 | none=>none
 | some _ =>
    if isAggB P t then(P.info? t).map fun i=> .agg ⟨(cs.drop off).take i.size⟩
    else cs[off]?
def bnd (v:Value)(y:Nat):Option Nat :=
 match v with
 | .int _ i=>if 0≤i∧i≤y then some i.toNat else none
 | _=>none
def bounds (len cap:Nat)(low high max:Option Value):Option (Nat × Nat × Nat) :=
 match (match max with | some v=>bnd v cap | none=>some cap)with
 | none=>none
 | some m =>
    match (match high,max with | some v,_=>bnd v m | none,none=>some len | none,some _=>none)with
    | none=>none
    | some h =>
       match (match low with | some v=>bnd v h | none=>some 0)with
       | none=>none
       | some l=>some (l,h,m)
def sliceV (t:TypeId)(x:Value)(lo hi mx:Option Value):Option Value :=
 match P.underlying t,x with
 | some (.array n elem), .pointer (some ⟨b,o,none⟩) =>
    match P.info? elem,bounds n n lo hi mx with
    | some i,some (l,h,m)=>if m-l=far then none else some (.slice (some (if m=l then⟨b,o,none⟩else(⟨b,o,none⟩:Addr).add (l*i.size))) (h-l) (m-l))
    | _,_=>none
 | some (.slice elem), .slice (some ⟨b,o,none⟩) len cap =>
    match P.info? elem with
    | none=>none
    | some i =>
       if cap=far then
        match mx,bounds len len lo hi mx with
        | none,some (l,h,_) =>
           if b=far then(if l=0∧h=0∧len=0∧o=0 then some x else none)
           else if i.size=0 then none
           else if l=0 then some (.slice (some ⟨b,o,none⟩) h far)
           else if l<len then some (.slice (some ⟨b,o+l*i.size,none⟩) (h-l) far)
           else some (.slice (some ⟨far,0,none⟩) 0 far)
        | some _,some (l,h,m)=>if b=far then none else if m-l=far then none else some (.slice (some (if m=l then⟨b,o,none⟩else(⟨b,o,none⟩:Addr).add (l*i.size))) (h-l) (m-l))
        | _,none=>none
       else
        match bounds len cap lo hi mx with
        | some (l,h,m)=>if m-l=far then none else some (.slice (some (if m=l then⟨b,o,none⟩else(⟨b,o,none⟩:Addr).add (l*i.size))) (h-l) (m-l))
        | none=>none
 | _,_=>none
def nilEq:TypeDesc→Value→Value→Option Bool
 | .pointer _, .pointer none, .pointer (some _)=>some false
 | .pointer _, .pointer (some _), .pointer none=>some false
 | .interface _, .nilIface, .iface _ _=>some false
 | .interface _, .iface _ _, .nilIface=>some false
 | .slice _, .slice none _ _, .slice (some _) _ _=>some false
 | .slice _, .slice (some _) _ _, .slice none _ _=>some false
 | .map _ _, .map none, .map (some _)=>some false
 | .map _ _, .map (some _), .map none=>some false
 | .func _ _ _, .nilFunc, .func _ _ _=>some false
 | .func _ _ _, .func _ _ _, .nilFunc=>some false
 | _,_,_=>none
def noSel:Op→Bool
 | .select _ _=>false
 | _=>true
def operandsFlat (nb:Nat)(E:Operand→Value)(o:Oper):Bool:=o.op.operands.toList.all fun x=>fixd nb 8 (E x)
def structV (E:Operand→Value):Op→Option Value
 | .move x=>some (E x)
 | .assign x=>some (E x)
 | .pick c a b =>
    match E c with
    | .bool t=>some (if t then E a else E b)
    | _=>none
 | .extract t ix =>
    match E t with
    | .tuple ⟨vs⟩=>vs[ix]?
    | _=>none
 | .makeInterface t x =>
    match P.underlying t with
    | some (.interface _)=>none
    | some _=>some (.iface t (E x))
    | none=>none
 | .makeFunc fn first captured=>if notYield fn then some (.func fn ⟨first.toList.map E⟩ ⟨captured.toList.map E⟩)else none
 | .nilCheck x =>
    match E x with
    | .pointer (some _)=>some (E x)
    | .iface _ _=>some (E x)
    | .func (.func _) _ _=>some (E x)
    | _=>none
 | .field t x f =>
    match P.underlying t,E x with
    | some (.struct fs), .agg ⟨cs⟩ =>
       match fs[f]? with
       | some f=>partV P f.type cs f.offset
       | none=>none
    | _,_=>none
 | .fieldAddr t x f =>
    match P.underlying t,E x with
    | some (.struct fs), .pointer (some a) =>
       match fs[f]? with
       | some f =>
          match P.info? f.type with
          | some i=>if i.size=0 then none else some (.pointer (some (a.add f.offset)))
          | none=>none
       | none=>none
    | _,_=>none
 | .indexAddr t x ix =>
    match P.underlying t,E x,E ix with
    | some (.array n elem), .pointer (some a), .int _ j =>
       match P.info? elem with
       | some i=>if 0≤j∧j<n then some (.pointer (some (a.add (j.toNat*i.size))))else none
       | none=>none
    | some (.slice elem), .slice (some a) n _, .int _ j =>
       match P.info? elem with
       | some i=>if 0≤j∧j<n then some (.pointer (some (a.add (j.toNat*i.size))))else none
       | none=>none
    | _,_,_=>none
 | .slice t x lo hi mx=>sliceV P t (E x) (lo.map E) (hi.map E) (mx.map E)
 | .typeAssert x _ asserted ok =>
    match E x with
    | .iface t v =>
       match P.underlying asserted with
       | some (.interface want) =>
          match P.info? t with
          | some i =>
             match (lacking want i.methods).isEmpty with
             | true=>some (if ok then .tuple ⟨[.iface t v, .bool true]⟩else .iface t v)
             | false =>
                if ok then
                 match P.info? asserted with
                 | some j=>match j.zero with
                    | some z=>if flat 8 z then some (.tuple ⟨[z, .bool false]⟩)else none
                    | none=>none
                 | none=>none
                else none
          | none=>none
       | some _ =>
          if t=asserted then some (if ok then .tuple ⟨[v, .bool true]⟩else v)
          else if ok then
           match P.info? asserted with
           | some j=>match j.zero with
              | some z=>if flat 8 z then some (.tuple ⟨[z, .bool false]⟩)else none
              | none=>none
           | none=>none
          else none
       | none=>none
    | _=>none
 | .call { callee:= .builtin .len,args:=⟨[x]⟩,argTypes:=⟨[t]⟩} =>
    match P.underlying t,E x with
    | some (.slice _), .slice (some _) n _=>some (goInt n)
    | some (.array n _),_=>some (goInt n)
    | _,_=>none
 | .call { callee:= .builtin .cap,args:=⟨[x]⟩,argTypes:=⟨[t]⟩} =>
    match P.underlying t,E x with
    | some (.slice _), .slice (some _) _ c=>if c=far then none else some (goInt c)
    | _,_=>none
 | .build t parts =>
    match (P.info? t).bind (·.zero)with
    | some z=>if flat 8 (.agg z.cells)then(P.built t (parts.toList.map fun p=>(p.1,E p.2))).map .agg else none
    | none=>none
 | .index t x ix =>
    match P.underlying t,E x,E ix with
    | some (.array n e), .agg ⟨cs⟩, .int _ j =>
       match P.info? e with
       | some i=>if 0≤j∧j<n then partV P e cs (j.toNat*i.size)else none
       | none=>none
    | _,_,_=>none
 | .binOp .eql t x y _ =>
    match P.underlying t with
    | some d=>(nilEq d (E x) (E y)).map .bool
    | none=>none
 | .binOp .neq t x y _ =>
    match P.underlying t with
    | some d=>(nilEq d (E x) (E y)).map fun b=> .bool (!b)
    | none=>none
 | _=>none
def fastInt (E:Operand→Value):Op→Option Value
 | .binOp op t x y _ =>
    match E x,E y with
    | .int k a, .int k' b =>
       if k=k' then
        match op with
        | .add | .sub | .mul=>quiet P (do eqGuard op t x y (.int k a) (.int k b);Op.intArith op k a b)
        | .eql | .neq | .lss | .leq | .gtr | .geq=>quiet P (do eqGuard op t x y (.int k a) (.int k b);Op.intCmp op a b)
        | _=>none
       else none
    | _,_=>none
 | _=>none
def evP (nb:Nat)(E:Operand→Value)(o:Oper):Option Value :=
 match fastInt P E o.op with
 | some v=>if fixd nb 8 v then some v else none
 | none =>
 match structV P E o.op with
 | some v=>some v
 | none =>
    if operandsFlat nb E o && noSel o.op then
     match quiet P (execOp E o)with
     | some (.value v)=>if fixd nb 8 v then some v else none
     | _=>none
    else none
end
section
variable [Base] {P:Program} {ρ:Ren}
theorem run_isAgg {t:TypeId}{d:TypeDesc}(h:P.underlying t=some d)(w:World):(isAgg t).run P w = .ok (isAggB P t) w:=by
 cases d<;>simp[isAgg,isAggB,run_underlying h,h]
theorem partV_ok {t:TypeId}{cs cs':List Value}{off:Nat}{v:Value}(h:partV P t cs off=some v)(hv:VRs ρ cs cs') :
 ∃v',VR ρ v v'∧∀w,(part t ⟨cs'⟩ off).run P w = .ok v' w:=by
 unfold partV at h
 cases hu:P.underlying t with
 | none=>simp[hu]at h
 | some d =>
    simp only[hu]at h
    cases ha:isAggB P t with
    | true =>
       simp only[ha,if_true,Option.map_eq_some_iff]at h
       obtain⟨i,hi,rfl⟩:=h
       refine⟨_, .agg ((hv.drop off).take i.size),fun w=> ?_⟩
       simp[part,run_isAgg hu,ha,sizeOf,typeInfo,hi,List.extract_eq_take_drop]
    | false =>
       simp only[ha,Bool.false_eq_true,if_false]at h
       obtain⟨v',h1,h2⟩:=hv.get h
       refine⟨v',h2,fun w=> ?_⟩
       simp[part,run_isAgg hu,ha,h1]
theorem bnd_run {v:Value}{y k:Nat}(h:bnd v y=some k)(c:BoundsCode)(w:World):(Instr.sliceBound v y c).run P w = .ok k w:=by
 unfold bnd at h
 cases v<;>simp at h
 obtain⟨h1,rfl⟩:=h
 simp[Instr.sliceBound,asIntOf,h1]
theorem bnd_mono {v:Value}{y z k:Nat}(h:bnd v y=some k)(hz:y≤z):bnd v z=some k:=by
 unfold bnd at *
 cases v<;>simp at h ⊢
 obtain⟨h1,h2⟩:=h
 exact⟨⟨h1.1,by omega⟩,h2⟩
theorem bnd_le {v:Value}{y k:Nat}(h:bnd v y=some k):k≤y:=by
 unfold bnd at h
 cases v<;>simp at h
 omega
theorem bounds_run {s:Bool}{len cap l h m:Nat}{lo hi mx:Option Value}(e:bounds len cap lo hi mx=some (l,h,m))(w:World) :
 (Instr.sliceBounds s len cap lo hi mx).run P w = .ok (l,h,m) w:=by
  unfold bounds at e
  unfold Instr.sliceBounds
  cases mx with
  | none =>
     simp only at e
     cases hi with
     | none =>
        simp only at e
        cases lo with
        | none=>simp at e;obtain⟨rfl,rfl,rfl⟩:=e;simp
        | some x =>
           cases hb:bnd x len with
           | none=>simp[hb]at e
           | some q=>simp[hb]at e;obtain⟨rfl,rfl,rfl⟩:=e;simp[bnd_run hb]
     | some y =>
        cases hb:bnd y cap with
        | none=>simp[hb]at e
        | some r =>
           cases lo with
           | none=>simp[hb]at e;obtain⟨rfl,rfl,rfl⟩:=e;simp[bnd_run hb]
           | some x =>
              cases hx:bnd x r with
              | none=>simp[hb,hx]at e
              | some q=>simp[hb,hx]at e;obtain⟨rfl,rfl,rfl⟩:=e;simp[bnd_run hb,bnd_run hx]
  | some z =>
     cases hz:bnd z cap with
     | none=>simp[hz]at e
     | some k =>
        cases hi with
        | none=>simp[hz]at e
        | some y =>
           cases hb:bnd y k with
           | none=>simp[hz,hb]at e
           | some r =>
              cases lo with
              | none=>simp[hz,hb]at e;obtain⟨rfl,rfl,rfl⟩:=e;simp[bnd_run hz,bnd_run hb]
              | some x =>
                 cases hx:bnd x r with
                 | none=>simp[hz,hb,hx]at e
                 | some q=>simp[hz,hb,hx]at e;obtain⟨rfl,rfl,rfl⟩:=e;simp[bnd_run hz,bnd_run hb,bnd_run hx]
theorem bounds_none {len c l h m:Nat}{lo hi:Option Value}(e:bounds len len lo hi none=some (l,h,m))(hc:len≤c):bounds len c lo hi none=some (l,h,c):=by
 unfold bounds at *
 simp only at e ⊢
 cases hi with
 | none =>
    simp only at e ⊢
    cases lo with
    | none=>simp at e ⊢;exact⟨e.1,e.2.1⟩
    | some x =>
       cases hb:bnd x len with
       | none=>simp[hb]at e
       | some q=>simp[hb]at e ⊢;exact⟨e.1,e.2.1⟩
 | some y =>
    cases hb:bnd y len with
    | none=>simp[hb]at e
    | some r =>
       cases lo with
       | none=>simp[hb,bnd_mono hb hc]at e ⊢;exact⟨e.1,e.2.1⟩
       | some x =>
          cases hx:bnd x r with
          | none=>simp[hb,hx]at e
          | some q=>simp[hb,bnd_mono hb hc,hx]at e ⊢;exact⟨e.1,e.2.1⟩
theorem bounds_some {len c l h m:Nat}{lo hi:Option Value}{z:Value}(e:bounds len len lo hi (some z)=some (l,h,m))(hc:len≤c):bounds len c lo hi (some z)=some (l,h,m):=by
 unfold bounds at *
 simp only at e ⊢
 cases hz:bnd z len with
 | none=>simp[hz]at e
 | some k=>simp only[hz,bnd_mono hz hc]at e ⊢;exact e
theorem bounds_le {len cap l h m:Nat}{lo hi mx:Option Value}(e:bounds len cap lo hi mx=some (l,h,m))(hc:len≤cap):l≤h∧h≤m:=by
 unfold bounds at e
 cases mx with
 | none =>
    simp only at e
    cases hi with
    | none =>
       cases lo with
       | none=>simp at e;omega
       | some x =>
          cases hb:bnd x len with
          | none=>simp[hb]at e
          | some q=>have:=bnd_le hb;simp[hb]at e;omega
    | some y =>
       cases hb:bnd y cap with
       | none=>simp[hb]at e
       | some r =>
          have:=bnd_le hb
          cases lo with
          | none=>simp[hb]at e;omega
          | some x =>
             cases hx:bnd x r with
             | none=>simp[hb,hx]at e
             | some q=>have:=bnd_le hx;simp[hb,hx]at e;omega
 | some z =>
    cases hz:bnd z cap with
    | none=>simp[hz]at e
    | some k =>
       cases hi with
       | none=>simp[hz]at e
       | some y =>
          cases hb:bnd y k with
          | none=>simp[hz,hb]at e
          | some r =>
             have:=bnd_le hb
             cases lo with
             | none=>simp[hz,hb]at e;omega
             | some x =>
                cases hx:bnd x r with
                | none=>simp[hz,hb,hx]at e
                | some q=>have:=bnd_le hx;simp[hz,hb,hx]at e;omega
theorem VR.add {a a':Addr}(h:VR ρ (.pointer (some a)) (.pointer (some a')))(n:Nat):VR ρ (.pointer (some (a.add n))) (.pointer (some (a'.add n))):=by
 cases h with
 | atom h=>simp[Eng.atom]at h
 | ptr h=>unfold Addr.add;split<;>exact .ptr h
end
end Go.Eng
