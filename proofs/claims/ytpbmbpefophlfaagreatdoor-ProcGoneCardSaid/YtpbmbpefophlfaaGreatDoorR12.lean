import Derived.Test.YtpbmbpefophlfaaGreatDoorR11
import Derived.Lib.TrimByte
import Derived.Lib.Bytealg
import Derived.Test.YtpbmbpefophlfaaGreatDoorShelf
import Derived.Lib.Strings
import Derived.Laws.OwnMore
import Derived.Laws.BitsLemmas
import Derived.Test.YtpbmbpefophlfaaGreatDoorProg
namespace Go.Proofs.YtpbmbpefophlfaaGreatDoor
structure NodeL where
 kind:Int
 mode:Int
 owner:Int
 links:Int
 opn:Int
 up:Int
 data:Nm
 names:List EntL
def zeroN:NodeL:=⟨0,0,0,0,0,0,[],[]⟩
theorem node_ext {a b:NodeL}(h0:a.kind=b.kind)(h1:a.mode=b.mode)(h2:a.owner=b.owner)(h3:a.links=b.links)(h4:a.opn=b.opn)(h5:a.up=b.up)(h6:a.data=b.data)(h7:a.names=b.names):a=b:=by
 cases a;cases b;simp_all
instance:DecidableEq NodeL:=fun a b =>
 decidable_of_iff (a.kind=b.kind∧a.mode=b.mode∧a.owner=b.owner∧a.links=b.links∧a.opn=b.opn∧a.up=b.up∧a.data=b.data∧a.names=b.names)
  ⟨fun⟨h0,h1,h2,h3,h4,h5,h6,h7⟩=>node_ext h0 h1 h2 h3 h4 h5 h6 h7,fun h=>by subst h;simp⟩
def weightL (n:NodeL):Nat:=if n.kind=1∨n.kind=3 then n.data.length else 0
def bytesL (l:List NodeL):Nat:=(l.map weightL).sum
def usedL (l:List NodeL):Nat:=l.countP fun n=> !decide (n.kind=0)
theorem bytes_succ (l:List NodeL)(k:Nat)(h:k<l.length):bytesL (l.take (k+1))=bytesL (l.take k)+weightL l[k]:=by
 unfold bytesL;rw[List.take_succ_eq_append_getElem h,List.map_append,List.sum_append];simp
def SmallN (n:NodeL):Prop:=n.data.length≤2000∧n.names.length≤130
def Small (l:List NodeL):Prop:=l.length≤110∧∀n∈l,SmallN n
theorem weight_le {n:NodeL}(h:SmallN n):weightL n≤2000:=by
 unfold weightL;split
 · exact h.1
 · omega
theorem bytes_le (l:List NodeL)(h : ∀n∈l,SmallN n):bytesL l≤l.length*2000:=by
 induction l with
 | nil=>simp[bytesL]
 | cons a l ih =>
    (have h1:=ih fun n hn=>h n (by simp[hn]));have h2:=weight_le (h a (by simp));(have:bytesL (a::l)=weightL a+bytesL l:=by simp[bytesL]);rw[this,List.length_cons];omega
theorem bytes_take_le {l:List NodeL}(h:Small l)(k:Nat):bytesL (l.take k)≤220000:=by
 (have h1:=bytes_le (l.take k) fun n hn=>h.2 n (List.mem_of_mem_take hn));(have h2:(l.take k).length≤110:=by have:=h.1;rw[List.length_take];omega);omega
def stepN (i at':Int)(s:Nat × Int)(e:EntL):Nat × Int:=if e.2=i then(s.1+1,at')else s
def foldN (i at':Int)(s:Nat × Int)(es:List EntL):Nat × Int:=es.foldl (stepN i at') s
def nmTo (l:List NodeL)(i:Int)(s0:Nat × Int):Nat→Nat × Int
 | 0=>s0
 | k+1=>foldN i k (nmTo l i s0 k) (l.getD k zeroN).names
def nmL (l:List NodeL)(i:Int)(s0:Nat × Int):Nat × Int:=nmTo l i s0 l.length
theorem foldN_succ (i at':Int)(s:Nat × Int)(es:List EntL)(j:Nat)(h:j<es.length):foldN i at' s (es.take (j+1))=stepN i at' (foldN i at' s (es.take j)) es[j]:=by
 unfold foldN;rw[List.take_succ_eq_append_getElem h,List.foldl_append];rfl
def Holds (l:List NodeL)(i:Int)(s:Nat × Int):Prop:=0<s.1→∃k:Nat,s.2=k∧∃h:k<l.length,∃e∈l[k].names,e.2=i
theorem fold_holds (l:List NodeL)(i:Int)(k:Nat)(hk:k<l.length)(es:List EntL):(∀e∈es,e∈l[k].names)→∀s,Holds l i s→Holds l i (foldN i k s es):=by
 induction es with
 | nil=>intro _ s h;exact h
 | cons e es ih =>
    intro hes s h;refine ih (fun e he=>hes e (by simp[he])) _ ?_;unfold stepN;split
    · rename_i he
      exact fun _=>⟨k,rfl,hk,e,hes e (by simp),he⟩
    · exact h
theorem nm_holds (l:List NodeL)(i x:Int):Holds l i (nmL l i (0,x)):=by
 unfold nmL
 have : ∀k,k≤l.length→Holds l i (nmTo l i (0,x) k):=by
  intro k
  induction k with
  | zero=>exact fun _ h=>absurd h (Nat.lt_irrefl 0)
  | succ k ih =>
     intro hk;refine fold_holds l i k (by omega) _ (fun e he=> ?_) _ (ih (by omega));rw[List.getD_eq_getElem?_getD,List.getElem?_eq_getElem (by omega)]at he;exact he
 exact this _ (Nat.le_refl _)
theorem fold_le (i at':Int)(es:List EntL)(s:Nat × Int):(foldN i at' s es).1≤s.1+es.length:=by
 induction es generalizing s with
 | nil=>exact Nat.le_refl _
 | cons e es ih =>
    have h1:=ih (stepN i at' s e);(have h2:(stepN i at' s e).1≤s.1+1:=by unfold stepN;split<;>simp);show(foldN i at' (stepN i at' s e) es).1≤_;rw[List.length_cons];omega
theorem nm_le {l:List NodeL}(hs:Small l)(i:Int)(s:Nat × Int)(k:Nat):(nmTo l i s k).1≤s.1+k*130:=by
 induction k with
 | zero=>simp[nmTo]
 | succ k ih =>
    have h1:=fold_le i k (l.getD k zeroN).names (nmTo l i s k)
    have h2:(l.getD k zeroN).names.length≤130:=by
     rw[List.getD_eq_getElem?_getD]
     cases hg:l[k]? with
     | none=>exact Nat.zero_le _
     | some n=>exact(hs.2 n (List.mem_of_getElem? hg)).2
    show(foldN i k (nmTo l i s k) (l.getD k zeroN).names).1≤_;omega
def inL (l:List NodeL)(j:Int):Bool:=decide (0≤j) && decide (j<l.length)
def atI (l:List NodeL)(j:Int):NodeL:=l.getD j.toNat zeroN
def gotB (l:List NodeL)(j:Int):Bool:=inL l j && !decide ((atI l j).kind=0)
def plainB (n:NodeL):Bool:=decide (1≤n.kind) && decide (n.kind≤3) && decide (0≤n.mode) && decide (n.mode≤63) && decide (0≤n.opn)
def namB (l:List NodeL)(e:EntL):Bool:=gotB l e.2 && !decide (e.2=0)
def namableB (l:List NodeL)(es:List EntL):Bool:=es.all (namB l)
def rootR (l:List NodeL):Nat→Int→Bool
 | 0,_=>false
 | f+1,j=>if j=0 then true else if gotB l j && decide ((atI l j).kind=2)then rootR l f (atI l j).up else false
def lastR (l:List NodeL)(i:Int)(n:NodeL)(s:Nat × Int):Bool :=
 if i=0 then decide (n.kind=2) && decide (n.up=0) && decide (n.links=1)
 else if n.links≠s.1∨(s.1=0∧n.opn<1)then false
 else if n.kind≠2 then true
 else if s.1=0 then decide (n.names.length=0) && decide (n.up=0)
 else decide (s.1=1) && decide (n.up=s.2) && rootR l (l.length+1) i
def okR (l:List NodeL)(i:Nat)(n:NodeL):Bool :=
 if n.kind=0 then decide (n=zeroN)
 else plainB n && (decide (n.kind=2) || decide (n.names.length=0)) && (!decide (n.kind=2) || decide (n.data = [])) && decide (SortedP n.names) && namableB l n.names && lastR l i n (nmL l i (0, -1))
def rightR (l:List NodeL)(most room:Int):Bool :=
 !decide (l.length=0) && !decide (most<l.length) && !decide (room<bytesL l) && decide ((atI l 0).kind=2) && (List.range l.length).all fun i=>okR l i (atI l i)
theorem at_nat (l:List NodeL)(i:Nat)(h:i<l.length):atI l i=l[i]:=by
 unfold atI;rw[Int.toNat_natCast,List.getD_eq_getElem?_getD,List.getElem?_eq_getElem h];rfl
theorem in_nat {l:List NodeL}{j:Int}(h:inL l j=true) : ∃k:Nat,j=k∧k<l.length:=by
 unfold inL at h;rw[Bool.and_eq_true,decide_eq_true_iff,decide_eq_true_iff]at h;exact⟨j.toNat,by omega,by omega⟩
theorem nat_in {l:List NodeL}{k:Nat}(h:k<l.length):inL l (k:Int)=true:=by
 unfold inL;rw[Bool.and_eq_true,decide_eq_true_iff,decide_eq_true_iff];omega
theorem range_all (p:Nat→Bool)(n:Nat):(List.range n).all p=true↔ ∀i,i<n→p i=true:=by simp
theorem pigeon : ∀(n:Nat) (L:List Nat),L.Nodup→(∀x∈L,x<n)→L.length≤n:=by
 intro n
 induction n with
 | zero =>
    intro L _ h
    cases L with
    | nil=>exact Nat.le_refl _
    | cons a L=>exact absurd (h a (by simp)) (Nat.not_lt_zero _)
 | succ n ih =>
    intro L hd h
    have h1:=ih (L.erase n) (hd.erase n) fun x hx=>by
     have h2:=(hd.mem_erase_iff).1 hx;have h3:=h x h2.2;have:=h2.1;omega
    rw[List.length_erase]at h1;split at h1<;>omega
end Go.Proofs.YtpbmbpefophlfaaGreatDoor
namespace Go.Proofs.YtpbmbpefophlfaaGreatDoor
def setL (l:List NodeL)(i:Int)(n:NodeL):List NodeL:=if inL l i then l.set i.toNat n else l
def idxL:List NodeL→Nat→Int
 | [],_=> -1
 | n::l,k=>if n.kind=0 then k else idxL l (k+1)
def addNo (l:List NodeL)(most room:Int)(n:NodeL):Bool:=decide (most≤(usedL l:Int)) || decide (room<(bytesL l:Int)+(weightL n:Int))
def addI (l:List NodeL)(most room:Int)(n:NodeL):Int:=if addNo l most room n then 0 else if idxL l 0<0 then l.length else idxL l 0
def addE (l:List NodeL)(most room:Int)(n:NodeL):Int:=if addNo l most room n then 10 else 0
def addL (l:List NodeL)(most room:Int)(n:NodeL):List NodeL:=if addNo l most room n then l else if idxL l 0<0 then l++ [n]else l.set (idxL l 0).toNat n
end Go.Proofs.YtpbmbpefophlfaaGreatDoor
namespace Go.Proofs.YtpbmbpefophlfaaGreatDoor
def sp:Nat→Option Nat→List UInt8→List (Nat × Nat)
 | _,none,[]=> []
 | i,some s,[]=> [(s,i)]
 | i,none,c::r=>if c=47 then sp (i+1) none r else sp (i+1) (some i) r
 | i,some s,c::r=>if c=47 then(s,i)::sp (i+1) none r else sp (i+1) (some s) r
def spans (l:List UInt8):List (Nat × Nat):=sp 0 none l
def cutS (l:List UInt8)(p:Nat × Nat):List UInt8:=(l.take p.2).drop p.1
def parts (l:List UInt8):List (List UInt8):=(spans l).map (cutS l)
end Go.Proofs.YtpbmbpefophlfaaGreatDoor
namespace Go.Proofs.YtpbmbpefophlfaaGreatDoor
open Go.RowKit Go.Shelf
attribute [local go_sem] Oper.semAt_some wide_fn wide_depth
end Go.Proofs.YtpbmbpefophlfaaGreatDoor
namespace Go.Proofs.YtpbmbpefophlfaaGreatDoor
open Go.RowKit Go.Shelf
attribute [local go_sem] Oper.semAt_some wide_fn wide_depth
end Go.Proofs.YtpbmbpefophlfaaGreatDoor
namespace Go.Proofs.YtpbmbpefophlfaaGreatDoor
open Go.RowKit Go.Shelf
attribute [local go_sem] Oper.semAt_some wide_fn wide_depth
end Go.Proofs.YtpbmbpefophlfaaGreatDoor
namespace Go.Proofs.YtpbmbpefophlfaaGreatDoor
open Go.RowKit Go.Shelf
attribute [local go_sem] Oper.semAt_some wide_fn wide_depth
def checkE (l:List UInt8):Int :=
 if l = []then 2 else if 100<l.length then 9 else if(0:UInt8)∈l then 1 else if(spans l).any (fun p=>decide (12<p.2-p.1))then 9 else 0
end Go.Proofs.YtpbmbpefophlfaaGreatDoor
namespace Go.Proofs.YtpbmbpefophlfaaGreatDoor
open Go.RowKit Go.Shelf
attribute [local go_sem] Oper.semAt_some wide_fn wide_depth
end Go.Proofs.YtpbmbpefophlfaaGreatDoor
namespace Go.Proofs.YtpbmbpefophlfaaGreatDoor
open Go.RowKit Go.Shelf
end Go.Proofs.YtpbmbpefophlfaaGreatDoor
namespace Go.Proofs.YtpbmbpefophlfaaGreatDoor
end Go.Proofs.YtpbmbpefophlfaaGreatDoor
namespace Go.Proofs.YtpbmbpefophlfaaGreatDoor
open Go.RowKit Go.Shelf
end Go.Proofs.YtpbmbpefophlfaaGreatDoor
namespace Go.Proofs.YtpbmbpefophlfaaGreatDoor
open Go.RowKit Go.Shelf
end Go.Proofs.YtpbmbpefophlfaaGreatDoor
namespace Go.Proofs.YtpbmbpefophlfaaGreatDoor
open Go.RowKit Go.Shelf
end Go.Proofs.YtpbmbpefophlfaaGreatDoor
namespace Go.Proofs.YtpbmbpefophlfaaGreatDoor
end Go.Proofs.YtpbmbpefophlfaaGreatDoor
namespace Go.Proofs.YtpbmbpefophlfaaGreatDoor
open Go.RowKit Go.Shelf
end Go.Proofs.YtpbmbpefophlfaaGreatDoor
namespace Go.Proofs.YtpbmbpefophlfaaGreatDoor
open Go.RowKit Go.Shelf
end Go.Proofs.YtpbmbpefophlfaaGreatDoor
namespace Go.Proofs.YtpbmbpefophlfaaGreatDoor
open Go.RowKit Go.Shelf
end Go.Proofs.YtpbmbpefophlfaaGreatDoor
namespace Go.Proofs.YtpbmbpefophlfaaGreatDoor
end Go.Proofs.YtpbmbpefophlfaaGreatDoor
namespace Go.Proofs.YtpbmbpefophlfaaGreatDoor
open Go.RowKit Go.Shelf
end Go.Proofs.YtpbmbpefophlfaaGreatDoor
namespace Go.Proofs.YtpbmbpefophlfaaGreatDoor
open Go
abbrev V (n:Int):BitVec 64:=BitVec.ofInt 64 n
def subB (want rights:Int):Bool:=(V want &&& 7#64 &&& ~~~ (V rights &&& 7#64)) == 0#64
def mayB (m owner who want:Int):Bool:=if who=0 then true else subB want (if owner=who then m / 8 else m)
def maskI (m u:Int):Int:=bits .andNot .i64 (m % 64) u
end Go.Proofs.YtpbmbpefophlfaaGreatDoor
namespace Go.Proofs.YtpbmbpefophlfaaGreatDoor
open Go.RowKit
end Go.Proofs.YtpbmbpefophlfaaGreatDoor
namespace Go.Proofs.YtpbmbpefophlfaaGreatDoor
structure SpotL where
 dir:Int
 name:Str
 ino:Int
 slash:Bool
def zeroS:SpotL:=⟨0,[],0,false⟩
theorem spot_ext {a b:SpotL}(h0:a.dir=b.dir)(h1:a.name=b.name)(h2:a.ino=b.ino)(h3:a.slash=b.slash):a=b:=by
 cases a;cases b;simp_all
instance:DecidableEq SpotL:=fun a b =>
 decidable_of_iff (a.dir=b.dir∧a.name=b.name∧a.ino=b.ino∧a.slash=b.slash) ⟨fun⟨h0,h1,h2,h3⟩=>spot_ext h0 h1 h2 h3,fun h=>by subst h;simp⟩
abbrev ResL:=SpotL × Int
def nodeL (l:List NodeL)(i:Int):NodeL:=if gotB l i=true then atI l i else zeroN
def dirE (l:List NodeL)(i:Int):Int:=if gotB l i=true then if(nodeL l i).kind=2 then 0 else 4 else 2
def lookL (l:List NodeL)(i:Int)(p:Str):Int:=if p = [46]then i else if p = [46,46]then(nodeL l i).up else(findL (nodeL l i).names p).getD (-1)
def firstAt (i:Int)(p:Str):Int:=if Lib.hasPrefix p [47]=true then 0 else i
def mayAt (l:List NodeL)(who i:Int):Bool:=mayB (nodeL l i).mode (nodeL l i).owner who 1
def goW (l:List NodeL)(who:Int)(follow slash:Bool)(i:Int)(ps:List Str)(hops:Nat):ResL :=
 match ps with
 | []=>(⟨0,[],0,slash⟩,0)
 | p::rest =>
    if dirE l i≠0 then(zeroS,dirE l i)
    else if mayAt l who i=false then(zeroS,7)
    else if lookL l i p<0 then if rest = []then(⟨i,p, -1,slash⟩,0)else(zeroS,2)
    else if(nodeL l (lookL l i p)).kind=3∧(rest≠ []∨follow=true∨slash=true)then
     if 8≤hops then(zeroS,8)
     else if checkE (nodeL l (lookL l i p)).data≠0 then(zeroS,checkE (nodeL l (lookL l i p)).data)
     else goW l who follow slash (firstAt i (nodeL l (lookL l i p)).data) (parts (nodeL l (lookL l i p)).data++rest) (hops+1)
    else if rest = []then if slash=true∧(nodeL l (lookL l i p)).kind≠2 then(zeroS,4)else(⟨i,p,lookL l i p,slash⟩,0)
    else goW l who follow slash (lookL l i p) rest hops
termination_by (9-hops,ps.length)
def walkL (l:List NodeL)(who fr:Int)(path:Str)(follow:Bool):ResL :=
 if checkE path≠0 then(zeroS,checkE path)
 else if parts path = []then if dirE l (firstAt fr path)≠0 then(zeroS,dirE l (firstAt fr path))else(⟨firstAt fr path,[],firstAt fr path,true⟩,0)
 else goW l who follow (Lib.hasSuffix path [47]) (firstAt fr path) (parts path) 0
def wnodeL (r:ResL):Int × Int:=if r.2≠0 then(0,r.2)else if r.1.ino<0 then(0,2)else(r.1.ino,0)
section
variable {l:List NodeL} {who:Int} {follow slash:Bool} {i:Int} {p:Str} {rest:List Str} {hops:Nat}
theorem go_loop (h:dirE l i=0)(h2:mayAt l who i=true)(h3: ¬lookL l i p<0)(h4:(nodeL l (lookL l i p)).kind=3)(h5:rest≠ []∨follow=true∨slash=true)(h6:8≤hops) :
 goW l who follow slash i (p::rest) hops=(zeroS,8):=by
 rw[goW,if_neg (by simp[h]),if_neg (by simp[h2]),if_neg h3,if_pos ⟨h4,h5⟩,if_pos h6]
end
def RightP (l:List NodeL):Prop:=∃most room,rightR l most room=true
theorem right_ok {l:List NodeL}(h:RightP l){i:Int}(hi:gotB l i=true) : ∃k:Nat,i=k∧∃hk:k<l.length,nodeL l i=l[k]∧l[k].kind≠0∧okR l k l[k]=true:=by
 obtain⟨most,room,h⟩:=h;have hg:=hi;unfold gotB at hi;rw[Bool.and_eq_true]at hi;obtain⟨k,rfl,hk⟩:=in_nat hi.1;have hat:=at_nat l k hk;refine⟨k,rfl,hk,?_,?_,?_⟩
 · unfold nodeL;rw[if_pos hg,hat]
 · have:=hi.2;rw[hat]at this;simpa using this
 · unfold rightR at h
   rw[Bool.and_eq_true]at h;have:=(range_all _ _).1 h.2 k hk;rw[hat]at this;exact this
theorem got_le {l:List NodeL}{i:Int}(h:gotB l i=true):0≤i∧i<l.length:=by
 unfold gotB inL at h;simp only[Bool.and_eq_true,decide_eq_true_iff]at h;exact h.1
theorem rootR_up {l:List NodeL}{f:Nat}{j:Int}(h:rootR l (f+1) j=true):j=0∨(gotB l j=true∧(atI l j).kind=2∧rootR l f (atI l j).up=true):=by
 unfold rootR at h;split at h
 · exact .inl ‹_›
 · split at h
   · rename_i h1
     simp only[Bool.and_eq_true,decide_eq_true_iff]at h1;exact .inr ⟨h1.1,h1.2,h⟩
   · cases h
end Go.Proofs.YtpbmbpefophlfaaGreatDoor
namespace Go.Proofs.YtpbmbpefophlfaaGreatDoor
def nd (l:List NodeL)(k:Nat):NodeL:=l.getD k zeroN
theorem nd_lt {l:List NodeL}{k:Nat}(h:k<l.length):nd l k=l[k]:=by
 unfold nd;rw[List.getD_eq_getElem?_getD,List.getElem?_eq_getElem h];rfl
theorem nd_ge {l:List NodeL}{k:Nat}(h:l.length≤k):nd l k=zeroN:=by
 unfold nd;rw[List.getD_eq_getElem?_getD,List.getElem?_eq_none h];rfl
theorem nd_kind {l:List NodeL}{k:Nat}(h:(nd l k).kind≠0):k<l.length:=by
 (refine Decidable.byContradiction fun hk=>h ?_);rw[nd_ge (by omega)];rfl
theorem at_nd (l:List NodeL)(k:Nat):atI l (k:Int)=nd l k:=by unfold atI nd;rw[Int.toNat_natCast]
theorem got_nd (l:List NodeL)(k:Nat):gotB l (k:Int)=true↔(nd l k).kind≠0:=by
 unfold gotB;rw[at_nd,Bool.and_eq_true];constructor
 · rintro⟨_,h⟩;simpa using h
 · intro h;exact⟨nat_in (nd_kind h),by simpa using h⟩
theorem got_nat {l:List NodeL}{i:Int}(h:gotB l i=true) : ∃k:Nat,i=k∧k<l.length∧(nd l k).kind≠0:=by
 obtain⟨h0,h1⟩:=got_le h;obtain⟨k,rfl⟩:=Int.eq_ofNat_of_zero_le h0;exact⟨k,rfl,by omega,(got_nd l k).1 h⟩
theorem nodeL_nd {l:List NodeL}{k:Nat}(h:(nd l k).kind≠0):nodeL l (k:Int)=nd l k:=by
 unfold nodeL;rw[if_pos ((got_nd l k).2 h),at_nd]
theorem nd_set {l:List NodeL}{k:Nat}(h:k<l.length)(n:NodeL)(j:Nat):nd (l.set k n) j=if j=k then n else nd l j:=by
 unfold nd;rw[List.getD_eq_getElem?_getD,List.getD_eq_getElem?_getD,List.getElem?_set];by_cases e:j=k
 · subst e;simp[h]
 · rw[if_neg e,if_neg (fun h=>e h.symm)]
def cntN (es:List EntL)(j:Int):Nat:=es.countP fun e=>decide (e.2=j)
def cnt (l:List NodeL)(j:Int):Nat:=(l.map fun n=>cntN n.names j).sum
theorem cntN_nil (j:Int):cntN [] j=0:=rfl
theorem cntN_pos {es:List EntL}{j:Int}:0<cntN es j↔ ∃e∈es,e.2=j:=by
 unfold cntN;rw[List.countP_pos_iff];simp
theorem cntN_zero {es:List EntL}{j:Int}:cntN es j=0↔ ∀e∈es,e.2≠j:=by
 unfold cntN;rw[List.countP_eq_zero];simp
theorem cnt_set {l:List NodeL}{k:Nat}(h:k<l.length)(n:NodeL)(j:Int):cnt (l.set k n) j+cntN (nd l k).names j=cnt l j+cntN n.names j:=by
 rw[nd_lt h];unfold cnt
 induction l generalizing k with
 | nil=>simp at h
 | cons a l ih =>
    cases k with
    | zero=>simp;omega
    | succ k =>
       have:=ih (k:=k) (by simpa using h);simp only[List.set_cons_succ,List.map_cons,List.sum_cons,List.getElem_cons_succ]at this ⊢;omega
theorem cnt_app (l:List NodeL)(n:NodeL)(j:Int):cnt (l++ [n]) j=cnt l j+cntN n.names j:=by simp[cnt]
theorem cnt_ge {l:List NodeL}(k:Nat)(j:Int):cntN (nd l k).names j≤cnt l j:=by
 by_cases h:k<l.length
 · have:=cnt_set h ⟨0,0,0,0,0,0,[],[]⟩ j
   simp only[cntN_nil]at this;omega
 · rw[nd_ge (by omega)];exact Nat.zero_le _
theorem cnt_ge2 {l:List NodeL}{k h:Nat}(hne:k≠h)(j:Int):cntN (nd l k).names j+cntN (nd l h).names j≤cnt l j:=by
 by_cases hk:k<l.length
 · have h1:=cnt_set hk ⟨0,0,0,0,0,0,[],[]⟩ j
   have h2:=cnt_ge (l:=l.set k ⟨0,0,0,0,0,0,[],[]⟩) h j;rw[nd_set hk,if_neg (Ne.symm hne)]at h2;simp only[cntN_nil]at h1;omega
 · rw[nd_ge (l:=l) (k:=k) (by omega)]
   have:=cnt_ge (l:=l) h j;simpa[zeroN,cntN_nil]using this
theorem nm_cnt (l:List NodeL)(j:Int)(s:Nat × Int):(nmL l j s).1=s.1+cnt l j:=by
 have hf : ∀(es:List EntL) (at':Int) (s:Nat × Int),(foldN j at' s es).1=s.1+cntN es j:=by
  intro es at'
  induction es with
  | nil=>intro s;rfl
  | cons e es ih =>
     intro s;show(foldN j at' (stepN j at' s e) es).1=_;rw[ih];unfold stepN cntN;by_cases h:e.2=j<;>simp[h]<;>omega
 have : ∀k,k≤l.length→(nmTo l j s k).1=s.1+cnt (l.take k) j:=by
  intro k
  induction k with
  | zero=>intro _;simp[nmTo,cnt]
  | succ k ih =>
     intro hk;show(foldN j k (nmTo l j s k) (l.getD k zeroN).names).1=_;rw[hf,ih (by omega),List.take_succ_eq_append_getElem (by omega),cnt_app,←nd_lt (by omega)];unfold nd;omega
 have:=this l.length (Nat.le_refl _)
 rwa [List.take_length]at this
inductive Rooted (l:List NodeL):Int→Prop
 | root:Rooted l 0
 | up (k:Nat):(nd l k).kind=2→Rooted l (nd l k).up→Rooted l k
def LocOk (n:NodeL):Prop:=plainB n=true∧(n.kind≠2→n.names = [])∧(n.kind=2→n.data = [])∧SortedP n.names
def Placed (l:List NodeL)(k:Nat)(n:NodeL):Prop :=
 (cnt l k=0→n.names = []∧n.up=0)∧(cnt l k≠0→cnt l k=1∧(∃h:Nat,n.up=h∧0<cntN (nd l h).names k)∧Rooted l k)
def NamedOk (l:List NodeL)(k:Nat)(n:NodeL):Prop:=n.links=cnt l k∧(cnt l k=0→1≤n.opn)∧(n.kind=2→Placed l k n)
structure RigE (l:List NodeL) (E:Nat→Prop):Prop where
 root:(nd l 0).kind=2∧(nd l 0).up=0∧(nd l 0).links=1
 zero : ∀k,(nd l k).kind=0→nd l k=zeroN
 loc : ∀k,(nd l k).kind≠0→LocOk (nd l k)
 nam : ∀k,∀e∈(nd l k).names,∃j:Nat,e.2=j∧j≠0∧(nd l j).kind≠0
 nmd : ∀k,k≠0→¬E k→(nd l k).kind≠0→NamedOk l k (nd l k)
abbrev Rig (l:List NodeL):Prop:=RigE l fun _=>False
theorem rootR_Rooted {l:List NodeL} : ∀(f:Nat) (j:Int),rootR l f j=true→Rooted l j:=by
 intro f
 induction f with
 | zero=>intro j h;cases h
 | succ f ih =>
    intro j h;rcases rootR_up h with rfl | ⟨hg,hk,h2⟩
    · exact .root
    · obtain⟨k,rfl,_,_⟩:=got_nat hg
      rw[at_nd]at hk h2;exact .up k hk (ih _ h2)
theorem rootR_mono (l:List NodeL) : ∀(f:Nat) (j:Int),rootR l f j=true→rootR l (f+1) j=true:=by
 intro f
 induction f with
 | zero=>intro j h;cases h
 | succ f ih =>
    intro j h;unfold rootR at h ⊢;split
    · rfl
    · rename_i h0
      rw[if_neg h0]at h;split at h
      · rename_i h1;rw[if_pos h1];exact ih _ h
      · cases h
theorem rootR_path (l:List NodeL)(h0:0<l.length) : ∀(f:Nat) (j:Int),rootR l (f+1) j=true→rootR l f j=false →
 ∃L:List Nat,L.length=f+1∧L.Nodup∧(∀x∈L,x<l.length)∧∀x∈L,rootR l (f+1) (x:Int)=true:=by
 intro f
 induction f with
 | zero =>
    intro j h _;refine⟨[0],rfl,by simp,fun x hx=> ?_,fun x hx=> ?_⟩
    · obtain rfl:=List.mem_singleton.1 hx;exact h0
    · obtain rfl:=List.mem_singleton.1 hx;rfl
 | succ f ih =>
    intro j h hn
    have hj:j≠0:=by
     intro e;subst e;rw[show rootR l (f+1) 0=true from rfl]at hn
     cases hn
    rcases rootR_up h with h1 | ⟨hg,hk,h2⟩
    · exact absurd h1 hj
    · have hn':rootR l f (atI l j).up=false:=by
       unfold rootR at hn;rw[if_neg hj,if_pos (by rw[hg,hk];rfl)]at hn;exact hn
      obtain⟨k,rfl,hlt,_⟩:=got_nat hg;obtain⟨L,a1,a2,a3,a4⟩:=ih _ h2 hn';refine⟨k::L,by simp[a1],List.nodup_cons.2 ⟨fun hm=> ?_,a2⟩,fun x hx=> ?_,fun x hx=> ?_⟩
      · have:=a4 k hm
        rw[hn]at this
        cases this
      · rcases List.mem_cons.1 hx with rfl | hx
        · exact hlt
        · exact a3 x hx
      · rcases List.mem_cons.1 hx with rfl | hx
        · exact h
        · exact rootR_mono l _ _ (a4 x hx)
theorem rootR_len (l:List NodeL)(h0:0<l.length) : ∀(f:Nat) (j:Int),rootR l f j=true→rootR l (l.length+1) j=true:=by
 intro f
 induction f with
 | zero=>intro j h;cases h
 | succ f ih =>
    intro j h;by_cases hf:f+1≤l.length+1
    · have : ∀d,rootR l (f+1+d) j=true:=by
       intro d
       induction d with
       | zero=>exact h
       | succ d ihd=>exact rootR_mono l _ _ ihd
      have h2:=this (l.length+1-(f+1))
      rwa [show f+1+(l.length+1-(f+1))=l.length+1 by omega]at h2
    · cases hc:rootR l f j with
      | true=>exact ih j hc
      | false =>
         obtain⟨L,a1,a2,a3,_⟩:=rootR_path l h0 f j h hc;have:=pigeon _ _ a2 a3;omega
theorem Rooted_rootR {l:List NodeL}(h0:0<l.length){j:Int}(h:Rooted l j):rootR l (l.length+1) j=true:=by
 have : ∃f,rootR l f j=true:=by
  induction h with
  | root=>exact⟨1,rfl⟩
  | up k hk _ ih =>
     obtain⟨f,hf⟩:=ih;refine⟨f+1,?_⟩;unfold rootR;split
     · rfl
     · rw[at_nd,if_pos (by rw[(got_nd l k).2 (by rw[hk];decide),hk];rfl)]
       exact hf
 obtain⟨f,hf⟩:=this;exact rootR_len l h0 f j hf
theorem Rooted_iff {l:List NodeL}(h0:0<l.length)(j:Int):rootR l (l.length+1) j=true↔Rooted l j:=⟨rootR_Rooted _ _,Rooted_rootR h0⟩
end Go.Proofs.YtpbmbpefophlfaaGreatDoor
namespace Go.Proofs.YtpbmbpefophlfaaGreatDoor
theorem holder {l:List NodeL}{k:Int}(h:cnt l k≠0) : ∃h0:Nat,(nmL l k (0, -1)).2=h0∧0<cntN (nd l h0).names k:=by
 have h1:=nm_holds l k (-1) (by rw[nm_cnt];omega);obtain⟨h0,e,hlt,x,hx,hk⟩:=h1;exact⟨h0,e,by rw[nd_lt hlt];exact cntN_pos.2 ⟨x,hx,hk⟩⟩
theorem lastR_iff {l:List NodeL}(h0:0<l.length){k:Nat}(hk:k≠0)(n:NodeL):lastR l (k:Int) n (nmL l k (0, -1))=true↔NamedOk l k n:=by
 have hc:=nm_cnt l k (0, -1);(have hk': ¬(k:Int)=0:=by omega);unfold lastR NamedOk Placed;rw[if_neg hk',hc,Nat.zero_add];constructor
 · intro h
   split at h
   · cases h
   · rename_i h1
     have hl:n.links=cnt l k:=Decidable.byContradiction fun hn=>h1 (.inl hn)
     have ho:cnt l k=0→1≤n.opn:=fun hz=>by
      refine Decidable.byContradiction fun hn=>h1 (.inr ⟨hz,by omega⟩)
     refine⟨hl,ho,fun h2=> ?_⟩;rw[if_neg (by simpa using h2)]at h;split at h
     · rename_i hz
       simp only[Bool.and_eq_true,decide_eq_true_iff]at h;exact⟨fun _=>⟨List.eq_nil_of_length_eq_zero h.1,h.2⟩,fun hn=>absurd hz hn⟩
     · rename_i hz
       simp only[Bool.and_eq_true,decide_eq_true_iff]at h;refine⟨fun hn=>absurd hn hz,fun _=>⟨h.1.1,?_,(Rooted_iff h0 k).1 h.2⟩⟩;obtain⟨h3,e,hp⟩:=holder (l:=l) (k:=k) hz;exact⟨h3,h.1.2.trans e,hp⟩
 · rintro⟨hl,ho,hd⟩
   rw[if_neg (by rintro(h | ⟨h,h'⟩);exact h hl;have:=ho h;omega)];split
   · rfl
   · rename_i h2
     obtain⟨p0,p1⟩:=hd (by simpa using h2);split
     · rename_i hz
       obtain⟨e1,e2⟩:=p0 hz;rw[e1,e2];rfl
     · rename_i hz
       obtain⟨e1,⟨h3,e2,e3⟩,e4⟩:=p1 hz;obtain⟨h5,e6,hp⟩:=holder (l:=l) (k:=k) hz
       have:h3=h5:=Decidable.byContradiction fun hne=>by
        have:=cnt_ge2 (l:=l) hne k;omega
       subst this;simp only[Bool.and_eq_true,decide_eq_true_iff];exact⟨⟨e1,e2.trans e6.symm⟩,(Rooted_iff h0 k).2 e4⟩
theorem okR_iff {l:List NodeL}{k:Nat}{n:NodeL}(hn:n.kind≠0):okR l k n=true↔LocOk n∧namableB l n.names=true∧lastR l k n (nmL l k (0, -1))=true:=by
 unfold okR LocOk;rw[if_neg hn];simp only[Bool.and_eq_true,decide_eq_true_iff,Bool.or_eq_true,Bool.not_eq_true',decide_eq_false_iff_not];constructor
 · rintro⟨⟨⟨⟨⟨h1,h2⟩,h3⟩,h4⟩,h5⟩,h6⟩
   exact⟨⟨h1,fun hk=>List.eq_nil_of_length_eq_zero (h2.resolve_left hk),fun hk=>h3.resolve_left (fun h=>h hk),h4⟩,h5,h6⟩
 · rintro⟨⟨h1,h2,h3,h4⟩,h5,h6⟩
   refine⟨⟨⟨⟨⟨h1,?_⟩,?_⟩,h4⟩,h5⟩,h6⟩
   · by_cases hk:n.kind=2
     · exact .inl hk
     · exact .inr (by rw[h2 hk];rfl)
   · by_cases hk:n.kind=2
     · exact .inr (h3 hk)
     · exact .inl hk
theorem namable_iff {l:List NodeL}{es:List EntL}:namableB l es=true↔ ∀e∈es,∃j:Nat,e.2=j∧j≠0∧(nd l j).kind≠0:=by
 unfold namableB;rw[List.all_eq_true];(refine forall_congr' fun e=>forall_congr' fun _=> ?_);unfold namB;simp only[Bool.and_eq_true,Bool.not_eq_true',decide_eq_false_iff_not];constructor
 · rintro⟨h1,h2⟩
   obtain⟨k,hk,_,h3⟩:=got_nat h1;exact⟨k,hk,by omega,h3⟩
 · rintro⟨j,h1,h2,h3⟩
   rw[h1];exact⟨(got_nd l j).2 h3,by omega⟩
theorem right_iff (l:List NodeL)(most room:Int):rightR l most room=true↔Rig l∧0<l.length∧(l.length:Int)≤most∧(bytesL l:Int)≤room:=by
 unfold rightR;simp only[Bool.and_eq_true,Bool.not_eq_true',decide_eq_false_iff_not,decide_eq_true_iff];rw[range_all];have hat0:atI l 0=nd l 0:=at_nd l 0;constructor
 · rintro⟨⟨⟨⟨h1,h2⟩,h3⟩,h4⟩,h5⟩
   (have hlen:0<l.length:=by omega);rw[hat0]at h4
   have hok : ∀k,(nd l k).kind≠0→LocOk (nd l k)∧namableB l (nd l k).names=true∧lastR l k (nd l k) (nmL l k (0, -1))=true:=fun k hk=>by
    have:=h5 k (nd_kind hk);rw[at_nd]at this;exact(okR_iff hk).1 this
   refine⟨⟨?_,fun k hk=> ?_,fun k hk=>(hok k hk).1,fun k e he=> ?_,fun k h0 _ hk=> ?_⟩,hlen,by omega,by omega⟩
   · have:=(hok 0 (by rw[h4];decide)).2.2
     unfold lastR at this;rw[if_pos (show((0:Nat):Int)=0 from rfl)]at this;simp only[Bool.and_eq_true,decide_eq_true_iff]at this;exact⟨this.1.1,this.1.2,this.2⟩
   · by_cases hlt:k<l.length
     · have:=h5 k hlt
       rw[at_nd]at this;unfold okR at this;rw[if_pos hk]at this;exact of_decide_eq_true this
     · exact nd_ge (by omega)
   · have hkk:(nd l k).kind≠0:=fun hz=>by
      by_cases hlt:k<l.length
      · have:=h5 k hlt
        rw[at_nd]at this;unfold okR at this;rw[if_pos hz]at this;rw[of_decide_eq_true this]at he
        cases he
      · rw[nd_ge (by omega)]at he
        cases he
     exact namable_iff.1 (hok k hkk).2.1 e he
   · exact(lastR_iff hlen h0 _).1 (hok k hk).2.2
 · rintro⟨hR,hlen,h2,h3⟩
   refine⟨⟨⟨⟨by omega,by omega⟩,by omega⟩,by rw[hat0];exact hR.root.1⟩,fun k hk=> ?_⟩;rw[at_nd];by_cases hz:(nd l k).kind=0
   · unfold okR
     rw[if_pos hz];exact decide_eq_true (hR.zero k hz)
   · refine(okR_iff hz).2 ⟨hR.loc k hz,namable_iff.2 (hR.nam k),?_⟩
     by_cases h0:k=0
     · subst h0
       unfold lastR;rw[if_pos (show((0:Nat):Int)=0 from rfl)];obtain⟨a,b,c⟩:=hR.root;rw[a,b,c];rfl
     · exact(lastR_iff hlen h0 _).2 (hR.nmd k h0 (fun h=>h) hz)
theorem Rooted.mono {l l':List NodeL}(P:Nat→Prop)(hs : ∀k,P k→(nd l k).kind=2→(nd l' k).kind=2∧(nd l' k).up=(nd l k).up∧∀u:Nat,(nd l k).up=u→u≠0→P u) :
 ∀ {j:Int},Rooted l j→(∀k:Nat,j=k→k≠0→P k)→Rooted l' j:=by
 intro j h
 induction h with
 | root=>exact fun _=> .root
 | up k hk hr ih =>
    intro hP;by_cases h0:k=0
    · subst h0;exact .root
    · obtain⟨a,b,c⟩:=hs k (hP k rfl h0) hk
      refine .up k a ?_;rw[b];exact ih fun u hu=>c u hu
theorem NamedOk.same {l l':List NodeL}{k:Nat}{n:NodeL}(h:NamedOk l k n)(hc:cnt l' k=cnt l k)(hh:n.kind=2→∀h:Nat,0<cntN (nd l h).names k→0<cntN (nd l' h).names k)(hr:n.kind=2→Rooted l k→Rooted l' k):NamedOk l' k n:=by
 obtain⟨h1,h2,h3⟩:=h;refine⟨by rw[hc];exact h1,by rw[hc];exact h2,fun hk=> ?_⟩;obtain⟨h4,h5⟩:=h3 hk;refine⟨by rw[hc];exact h4,?_⟩;rw[hc];intro hn;obtain⟨a,⟨u,b,c⟩,d⟩:=h5 hn;exact⟨a,⟨u,b,hh hk u c⟩,hr hk d⟩
theorem RigE.names {l:List NodeL}{E:Nat→Prop}(h:RigE l E)(d:Nat)(hd:(nd l d).kind=2)(es:List EntL)(E':Nat→Prop)(hE : ∀k,E k→E' k)(hs:SortedP es)
 (hn : ∀e∈es,∃j:Nat,e.2=j∧j≠0∧(nd l j).kind≠0) (hc : ∀j:Nat,¬E' j→cntN es j=cntN (nd l d).names j) (hz:d≠0→¬E' d→cnt l d=0→es = []) :
 RigE (l.set d { nd l d with names:=es}) E':=by
 have hlt:d<l.length:=nd_kind (by rw[hd];decide);have hnd : ∀j,nd (l.set d { nd l d with names:=es}) j=if j=d then { nd l d with names:=es} else nd l j:=nd_set hlt _
 have hk : ∀j,(nd (l.set d { nd l d with names:=es}) j).kind=(nd l j).kind∧(nd (l.set d { nd l d with names:=es}) j).up=(nd l j).up∧(nd (l.set d { nd l d with names:=es}) j).links=(nd l j).links:=fun j=>by
  rw[hnd];split
  · rename_i e;rw[e];exact⟨rfl,rfl,rfl⟩
  · exact⟨rfl,rfl,rfl⟩
 have hcn : ∀j:Nat,¬E' j→cnt (l.set d { nd l d with names:=es}) j=cnt l j:=fun j hj=>by
  have h1:cnt (l.set d { nd l d with names:=es}) j+cntN (nd l d).names j=cnt l j+cntN es j:=cnt_set hlt _ j;have h2:=hc j hj;omega
 refine⟨by obtain⟨a,b,c⟩:=h.root;exact⟨(hk 0).1.trans a,(hk 0).2.1.trans b,(hk 0).2.2.trans c⟩,fun j hj=> ?_,fun j hj=> ?_,fun j e he=> ?_,fun j h0 hj hjk=> ?_⟩
 · rw[(hk j).1]at hj
   rw[hnd,if_neg (by intro e;rw[e,hd]at hj;cases hj)];exact h.zero j hj
 · rw[(hk j).1]at hj
   rw[hnd];split
   · rename_i e
     subst e;obtain⟨a,b,c,_⟩:=h.loc j hj;exact⟨a,fun h=>absurd hd h,c,hs⟩
   · exact h.loc j hj
 · have : ∃i:Nat,e.2=i∧i≠0∧(nd l i).kind≠0:=by
    rw[hnd]at he;split at he
    · exact hn e he
    · exact h.nam j e he
   obtain⟨i,a,b,c⟩:=this;exact⟨i,a,b,by rw[(hk i).1];exact c⟩
 · rw[(hk j).1]at hjk
   have hn:=h.nmd j h0 (fun he=>hj (hE j he)) hjk
   have hn':NamedOk (l.set d { nd l d with names:=es}) j (nd l j):=by
    (refine hn.same (hcn j hj) (fun _ u hu=> ?_) fun _ hr=>hr.mono (fun _=>True) (fun k _ hk2=>⟨(hk k).1.trans hk2,(hk k).2.1,fun _ _ _=>trivial⟩) fun _ _ _=>trivial);rw[hnd];split
    · rename_i e;subst e;simp only;rw[hc j hj];exact hu
    · exact hu
   rw[hnd];split
   · rename_i e
     subst e;obtain⟨a,b,c⟩:=hn';refine⟨a,b,fun h2=> ?_⟩;obtain⟨c1,c2⟩:=c hd;refine⟨fun hz0=>⟨hz h0 hj ((hcn j hj).symm.trans hz0),(c1 hz0).2⟩,c2⟩
   · exact hn'
theorem RigE.less {l:List NodeL}{E E':Nat→Prop}(h:RigE l E)(hE : ∀k,E k→E' k∨(k≠0→(nd l k).kind≠0→NamedOk l k (nd l k))):RigE l E':=by
 refine⟨h.root,h.zero,h.loc,h.nam,fun k h0 hk hkk=> ?_⟩;by_cases he:E k
 · exact(hE k he).resolve_left hk h0 hkk
 · exact h.nmd k h0 he hkk
theorem RigE.node {l:List NodeL}{E:Nat→Prop}(h:RigE l E){y:Nat}(hy:E y)(h0:y≠0)(hlt:y<l.length)(n:NodeL)(hnm:n.names=(nd l y).names)(hl:n.kind≠0→LocOk n)(hz:n.kind=0→n=zeroN)(hk0:n.kind=0→∀k,cntN (nd l k).names y=0)
 (hr : ∀k:Nat,k≠0→¬E k→(nd l k).kind=2→Rooted l k→Rooted (l.set y n) k):RigE (l.set y n) E:=by
  have hnd : ∀j,nd (l.set y n) j=if j=y then n else nd l j:=nd_set hlt _
  have hc : ∀j:Int,cnt (l.set y n) j=cnt l j:=fun j=>by
   have:=cnt_set hlt n j;rw[hnm]at this;omega
  have hns : ∀j,(nd (l.set y n) j).names=(nd l j).names:=fun j=>by
   rw[hnd];split
   · rename_i e;rw[e,hnm]
   · rfl
  refine⟨by rw[hnd,if_neg (Ne.symm h0)];exact h.root,fun j hj=> ?_,fun j hj=> ?_,fun j e he=> ?_,fun j hj0 hj hjk=> ?_⟩
  · rw[hnd]at hj ⊢
    split
    · rename_i e;rw[if_pos e]at hj;exact hz hj
    · rename_i e;rw[if_neg e]at hj;exact h.zero j hj
  · rw[hnd]at hj ⊢
    split
    · rename_i e;rw[if_pos e]at hj;exact hl hj
    · rename_i e;rw[if_neg e]at hj;exact h.loc j hj
  · rw[hns]at he
    obtain⟨i,a,b,c⟩:=h.nam j e he;refine⟨i,a,b,?_⟩;rw[hnd];split
    · rename_i e1
      subst e1;intro hn0;have:=cntN_zero.1 (hk0 hn0 j) e he;exact this a
    · exact c
  · have hjy:j≠y:=fun e=>hj (e▸hy)
    rw[hnd,if_neg hjy]at hjk ⊢;refine(h.nmd j hj0 hj hjk).same (hc j) (fun _ u hu=>by rw[hns];exact hu) fun h2 hr0=>hr j hj0 hj h2 hr0
end Go.Proofs.YtpbmbpefophlfaaGreatDoor
