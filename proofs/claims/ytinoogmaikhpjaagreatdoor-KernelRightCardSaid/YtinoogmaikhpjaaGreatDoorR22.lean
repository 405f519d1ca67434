import Derived.Test.YtinoogmaikhpjaaGreatDoorR14
import Derived.Test.YtinoogmaikhpjaaGreatDoorR15
import Derived.Test.YtinoogmaikhpjaaGreatDoorR11
import Derived.Test.YtinoogmaikhpjaaGreatDoorR18
import Derived.Deep.RegionHeld3
import Derived.WalkMore
import Derived.Deep.DrawnRows
import Derived.Laws.Cover1
import Derived.Lib.Bytealg
import Derived.Test.YtinoogmaikhpjaaGreatDoorProg
namespace Go.Proofs.YtinoogmaikhpjaaGreatDoor
def fileE (l:List NodeL)(i:Int):Int:=if gotB l i=false then 2 else if(getL l i).kind=2 then 5 else if(getL l i).kind≠1 then 1 else 0
def restD (d:Nm)(i:Int):Nm:=if(d.length:Int)<i then[]else d.drop i.toNat
def headD (d:Nm)(n:Int):Nm:=if n<(d.length:Int)then d.take n.toNat else d
def partD (d:Nm)(i n:Int):Nm:=headD (restD d i) n
def readL (l:List NodeL)(i a n:Int):Nm × Int:=if fileE l i≠0 then([],fileE l i)else if a<0∨n<0 then([],1)else(partD (getL l i).data a n,0)
def padD (d:Nm)(n:Int):Nm:=d++List.replicate (n-d.length).toNat 0
def putD (d s:Nm)(a:Int):Nm:=(padD d a).take a.toNat++s++(padD d a).drop (a.toNat+s.length)
def dataN (n:NodeL)(d:Nm):NodeL:= { n with data:=d}
abbrev CntL:=List NodeL × Int
def keptL (l:List NodeL)(room i:Int)(d:Nm):CntL:=if(getL l i).data.length<d.length∧room<(bytesL l:Int)+d.length-(getL l i).data.length then(l,10)else(setL l i (dataN (getL l i) d),0)
def writeL (l:List NodeL)(room i a:Int)(s:Nm):CntL :=
 if fileE l i≠0 then(l,fileE l i)else if a<0 then(l,1)else if s = []then(l,0)else if 1000<a then(l,10)else keptL l room i (putD (getL l i).data s a)
def cutL (l:List NodeL)(room i n:Int):CntL :=
 if fileE l i≠0 then(l,fileE l i)else if n<0 then(l,1)else if n≤((getL l i).data.length:Int)then keptL l room i ((getL l i).data.take n.toNat)else if 1000<n then(l,10)else keptL l room i (padD (getL l i).data n)
end Go.Proofs.YtinoogmaikhpjaaGreatDoor
namespace Go.Proofs.YtinoogmaikhpjaaGreatDoor
structure DescL where
 ino:Int
 pos:Int
 rd:Bool
 wr:Bool
 refs:Int
 lock:Int
def zeroD:DescL:=⟨0,0,false,false,0,0⟩
theorem desc_ext {a b:DescL}(h0:a.ino=b.ino)(h1:a.pos=b.pos)(h2:a.rd=b.rd)(h3:a.wr=b.wr)(h4:a.refs=b.refs)(h5:a.lock=b.lock):a=b:=by
 cases a;cases b;simp_all
instance:DecidableEq DescL:=fun a b =>
 if h:a.ino=b.ino∧a.pos=b.pos∧a.rd=b.rd∧a.wr=b.wr∧a.refs=b.refs∧a.lock=b.lock then .isTrue (desc_ext h.1 h.2.1 h.2.2.1 h.2.2.2.1 h.2.2.2.2.1 h.2.2.2.2.2)
 else .isFalse fun e=>h (by subst e;exact⟨rfl,rfl,rfl,rfl,rfl,rfl⟩)
structure TabL where
 ds:List DescL
 fs:List (List Int)
def rowT (t:TabL)(p:Int):List Int:=t.fs.getD p.toNat []
def inT (t:TabL)(p:Int):Bool:=decide (0≤p) && decide (p<t.fs.length)
def atR (r:List Int)(k:Int):Int:=r.getD k.toNat 0
def hasT (t:TabL)(p fd:Int):Bool:=inT t p && (decide (0≤fd) && decide (fd<(rowT t p).length)) && decide (0≤atR (rowT t p) fd)
def descT (t:TabL)(i:Int):DescL:=t.ds.getD i.toNat zeroD
def placeT (t:TabL)(p fd:Int):Int:=if hasT t p fd then atR (rowT t p) fd else -1
def foundT (t:TabL)(p fd:Int):DescL:=if hasT t p fd then descT t (atR (rowT t p) fd)else zeroD
def setT (t:TabL)(i:Int)(x:DescL):TabL:=if i<0∨(t.ds.length:Int)≤i∨(descT t i).refs<1 then t else⟨t.ds.set i.toNat { x with refs:=(descT t i).refs},t.fs⟩
def countR (r:List Int):Nat:=r.countP fun x=>decide (0≤x)
def countT (t:TabL)(p:Int):Nat:=if inT t p then countR (rowT t p)else 0
def firstR (r:List Int):Nat:=r.findIdx fun x=>decide (x<0)
def freeD (ds:List DescL):Nat:=ds.findIdx fun d=>decide (d.refs≤0)
def putF (fs:List (List Int))(p k:Nat)(v:Int):List (List Int):=fs.set p ((fs.getD p []).set k v)
def putD1 (ds:List DescL)(i:Nat)(x:DescL):List DescL:=if i=ds.length then ds++ [x]else ds.set i x
def openT (t:TabL)(p:Int)(x:DescL):TabL × Int × Int :=
 if inT t p=false then(t,0,1)else if(rowT t p).length≤firstR (rowT t p)then(t,0,13)
 else(⟨putD1 t.ds (freeD t.ds) { x with refs:=1},putF t.fs p.toNat (firstR (rowT t p)) (freeD t.ds)⟩,firstR (rowT t p),0)
def dupT (t:TabL)(p fd:Int):TabL × Int × Int :=
 if hasT t p fd=false then(t,0,12)else if(rowT t p).length≤firstR (rowT t p)then(t,0,13)
 else(⟨t.ds.set (placeT t p fd).toNat { foundT t p fd with refs:=(foundT t p fd).refs+1},putF t.fs p.toNat (firstR (rowT t p)) (placeT t p fd)⟩,firstR (rowT t p),0)
def lessD (d:DescL):DescL:= { d with refs:=d.refs-1}
def closeT (t:TabL)(p fd:Int):TabL × DescL × Int :=
 if hasT t p fd=false then(t,zeroD,12)
 else(⟨t.ds.set (placeT t p fd).toNat (if(lessD (foundT t p fd)).refs=0 then zeroD else lessD (foundT t p fd)),putF t.fs p.toNat fd.toNat (-1)⟩,lessD (foundT t p fd),0)
def refsOf (fs:List (List Int))(i:Int):Nat:=(fs.map fun r=>r.count i).sum
def rowOk (n:Nat)(r:List Int):Prop:=r.length=8∧∀x∈r, -1≤x∧x<(n:Int)
def descOk (fs:List (List Int))(i:Nat)(d:DescL):Prop:=d.refs=refsOf fs i∧(refsOf fs i=0→d=zeroD)
def RightT (t:TabL):Prop:=(∀r∈t.fs,rowOk t.ds.length r)∧∀i d,t.ds[i]? = some d→descOk t.fs i d
theorem getD_at {α:Type}{l:List α}{p:Nat}{d:α}(h:p<l.length):l.getD p d=l[p]:=by
 rw[List.getD_eq_getElem?_getD,List.getElem?_eq_getElem h];rfl
theorem refs_none {t:TabL}(h:RightT t){j:Int}(hj:(t.ds.length:Int)≤j):refsOf t.fs j=0:=by
 unfold refsOf
 have : ∀l:List (List Int),(∀r∈l,∀x∈r,x<(t.ds.length:Int))→(l.map fun r=>r.count j).sum=0:=fun l=>by
  induction l with
  | nil=>intro _;rfl
  | cons a l ih =>
     intro hl;rw[List.map_cons,List.sum_cons,ih (fun r hr=>hl r (List.mem_cons_of_mem _ hr)),List.count_eq_zero.2 (fun hm=>by have:=hl a List.mem_cons_self j hm;omega)]
 exact this _ fun r hr x hx=>((h.1 r hr).2 x hx).2
theorem refs_bound (fs:List (List Int))(j:Int)(a b:Nat)(ha:fs.length≤a)(hb : ∀r∈fs,r.length≤b):refsOf fs j≤a*b:=by
 unfold refsOf
 have : ∀l:List (List Int),(∀r∈l,r.length≤b)→(l.map fun r=>r.count j).sum≤l.length*b:=fun l=>by
  induction l with
  | nil=>intro _;simp
  | cons c l ih =>
     intro hl;(have h1:=ih fun r hr=>hl r (List.mem_cons_of_mem _ hr));have h2:=hl c List.mem_cons_self;have h3:c.count j≤c.length:=List.count_le_length;simp only[List.map_cons,List.sum_cons,List.length_cons,Nat.add_mul];omega
 exact Nat.le_trans (this fs hb) (Nat.mul_le_mul_right _ ha)
theorem in_T {t:TabL}{p:Int}(h:inT t p=true) : ∃k:Nat,p=k∧k<t.fs.length:=by
 unfold inT at h;simp only[Bool.and_eq_true,decide_eq_true_iff]at h;obtain⟨k,rfl⟩:=Int.eq_ofNat_of_zero_le h.1;exact⟨k,rfl,by omega⟩
theorem row_at {t:TabL}{k:Nat}(h:k<t.fs.length):rowT t (k:Int)=t.fs[k]:=by unfold rowT;rw[Int.toNat_natCast,getD_at h]
theorem row_right {t:TabL}(h:RightT t){k:Nat}(hk:k<t.fs.length):rowOk t.ds.length (rowT t k):=by rw[row_at hk];exact h.1 _ (List.getElem_mem _)
theorem at_R {r:List Int}{k:Nat}(h:k<r.length):atR r (k:Int)=r[k]:=by unfold atR;rw[Int.toNat_natCast,getD_at h]
theorem desc_right {t:TabL}(hr:RightT t){i:Nat}(h:i<t.ds.length):descOk t.fs i t.ds[i]:=hr.2 i _ (List.getElem?_eq_getElem h)
theorem first_lt {r:List Int}(h:firstR r<r.length):r[firstR r]<0:=by
 have:=List.findIdx_getElem (p:=fun x=>decide (x<0)) (xs:=r) (w:=h);exact of_decide_eq_true this
theorem first_min {r:List Int}{k:Nat}(hk:k<firstR r) : ∃h:k<r.length,0≤r[k]:=by
 have hl:k<r.length:=Nat.lt_of_lt_of_le hk List.findIdx_le_length;refine⟨hl,?_⟩;have:=List.not_of_lt_findIdx (p:=fun x=>decide (x<0)) (xs:=r) hk;exact Int.not_lt.1 (by simpa using this)
theorem free_le (ds:List DescL):freeD ds≤ds.length:=List.findIdx_le_length
theorem free_lt {ds:List DescL}(h:freeD ds<ds.length):ds[freeD ds].refs≤0:=by
 have:=List.findIdx_getElem (p:=fun d:DescL=>decide (d.refs≤0)) (xs:=ds) (w:=h);exact of_decide_eq_true this
theorem free_zero {t:TabL}(hr:RightT t):refsOf t.fs (freeD t.ds)=0∧∀h:freeD t.ds<t.ds.length,t.ds[freeD t.ds]=zeroD:=by
 rcases Nat.lt_or_ge (freeD t.ds) t.ds.length with h | h
 · have h1:=free_lt h
   have h2:=desc_right hr h;(have h3:refsOf t.fs (freeD t.ds)=0:=by have:=h2.1;omega);exact⟨h3,fun _=>h2.2 h3⟩
 · exact⟨refs_none hr (by omega),fun h'=>absurd h' (by omega)⟩
theorem putD1_len (ds:List DescL)(i:Nat)(x:DescL):(putD1 ds i x).length=if i=ds.length then ds.length+1 else ds.length:=by
 unfold putD1;split
 · rw[List.length_append];rfl
 · rw[List.length_set]
theorem putD1_at (ds:List DescL)(i:Nat)(x:DescL)(hi:i≤ds.length)(j:Nat):(putD1 ds i x)[j]? = if j=i then some x else ds[j]?:= by
 unfold putD1;split
 · rename_i h
   subst h;rw[List.getElem?_append];by_cases hj:j<ds.length
   · rw[if_pos hj,if_neg (by omega)]
   · rw[if_neg hj]
     by_cases e:j=ds.length
     · subst e;rw[if_pos rfl,Nat.sub_self];rfl
     · rw[if_neg e,List.getElem?_eq_none (by rw[List.length_singleton];omega),List.getElem?_eq_none (by omega)]
 · rename_i h
   rw[List.getElem?_set];by_cases e:i=j
   · subst e;rw[if_pos rfl,if_pos rfl,if_pos (by omega)]
   · rw[if_neg e,if_neg (Ne.symm e)]
theorem putF_len (fs:List (List Int))(p k:Nat)(v:Int):(putF fs p k v).length=fs.length:=by unfold putF;rw[List.length_set]
theorem getE_of {r s:List Int}{k:Nat}(e:r=s)(h:k<r.length)(h':k<s.length):r[k]=s[k]:=by subst e;rfl
end Go.Proofs.YtinoogmaikhpjaaGreatDoor
namespace Go.Proofs.YtinoogmaikhpjaaGreatDoor
theorem in_natT {t:TabL}{k:Nat}(h:k<t.fs.length):inT t (k:Int)=true:=by
 unfold inT;rw[decide_eq_true (show(0:Int)≤(k:Int)by omega),decide_eq_true (show(k:Int)<(t.fs.length:Int)by omega)];rfl
theorem row_same {t:TabL}{ds':List DescL}{a k:Nat}{v:Int}(ha:a<t.fs.length):rowT ⟨ds',putF t.fs a k v⟩ (a:Int)=(rowT t a).set k v:=by
 unfold rowT putF;rw[Int.toNat_natCast,getD_at (by rw[List.length_set];exact ha),List.getElem_set_self]
theorem has_nat {t:TabL}{a m:Nat}(ha:a<t.fs.length)(hm:m<(rowT t a).length)(h0:0≤(rowT t a)[m]):hasT t (a:Int) (m:Int)=true:=by
 unfold hasT;rw[in_natT ha,at_R hm,decide_eq_true h0,decide_eq_true (show(0:Int)≤(m:Int)by omega),decide_eq_true (show(m:Int)<((rowT t a).length:Int)by omega)];rfl
theorem get_nat {t:TabL}{a m:Nat}(h:hasT t (a:Int) (m:Int)=true)(hm:m<(rowT t a).length):placeT t a m=(rowT t a)[m]∧foundT t a m=descT t (rowT t a)[m]:=by
 unfold placeT foundT;rw[if_pos h,if_pos h,at_R hm];exact⟨rfl,rfl⟩
theorem set_back {r:List Int}{k:Nat}{v w:Int}(hk:k<r.length)(h:r[k]=w):(r.set k v).set k w=r:=by
 rw[List.set_set,←h,List.set_getElem_self]
theorem put_back {fs:List (List Int)}{a k:Nat}{v w:Int}(ha:a<fs.length)(hk:k<fs[a].length)(h:fs[a][k]=w):putF (putF fs a k v) a k w=fs:=by
 unfold putF;rw[getD_at (show a<(fs.set a ((fs.getD a []).set k v)).length by rw[List.length_set];exact ha),List.getElem_set_self,getD_at ha,set_back hk h,List.set_set,List.set_getElem_self]
theorem neg_one {t:TabL}(hr:RightT t){a k:Nat}(ha:a<t.fs.length)(hk:k<(rowT t a).length)(h:(rowT t a)[k]<0):(rowT t a)[k] = -1:=by
 have:=((row_right hr ha).2 _ (List.getElem_mem hk)).1;omega
theorem open_ok {t:TabL}{p:Int}{x:DescL}(h:(openT t p x).2.2=0) : ∃a:Nat,p=a∧a<t.fs.length∧firstR (rowT t a)<(rowT t a).length∧openT t p x=((⟨putD1 t.ds (freeD t.ds) { x with refs:=1},putF t.fs a (firstR (rowT t a)) (freeD t.ds:Nat)⟩:TabL),((firstR (rowT t a):Nat):Int),(0:Int)):=by
 unfold openT at h ⊢;split at h
 · cases h
 · rename_i h1
   rw[if_neg h1];obtain⟨a,rfl,ha⟩:=in_T (by simpa using h1);split at h
   · cases h
   · rename_i h2
     rw[if_neg h2,Int.toNat_natCast];exact⟨a,rfl,ha,by omega,rfl⟩
theorem count_put (r:List Int)(k:Nat)(v:Int)(hk:k<r.length)(h1:r[k]<0)(h2:0≤v):countR (r.set k v)=countR r+1:=by
 unfold countR
 induction r generalizing k with
 | nil=>cases hk
 | cons a r ih =>
    cases k with
    | zero =>
       simp only[List.getElem_cons_zero]at h1;rw[List.set_cons_zero,List.countP_cons_of_pos (by simpa using h2),List.countP_cons_of_neg (by simpa using h1)]
    | succ k =>
       have:=ih k (by simpa using hk) (by simpa using h1);rw[List.set_cons_succ,List.countP_cons,List.countP_cons,this];omega
theorem desc_put {t:TabL}{fs':List (List Int)}{x:DescL}:descT ⟨putD1 t.ds (freeD t.ds) x,fs'⟩ (freeD t.ds:Nat)=x:=by
 unfold descT;rw[Int.toNat_natCast,List.getD_eq_getElem?_getD,putD1_at _ _ _ (free_le _),if_pos rfl];rfl
theorem back_open {t:TabL}(hr:RightT t){p:Int}{x:DescL}(h:(openT t p x).2.2=0) :
 hasT (openT t p x).1 p (openT t p x).2.1=true∧placeT (openT t p x).1 p (openT t p x).2.1=(freeD t.ds:Nat)∧foundT (openT t p x).1 p (openT t p x).2.1 = { x with refs:=1}
  ∧ closeT (openT t p x).1 p (openT t p x).2.1=((⟨if freeD t.ds=t.ds.length then t.ds++ [zeroD]else t.ds,t.fs⟩:TabL),({ x with refs:=0}:DescL),(0:Int))∧countT (openT t p x).1 p=countT t p+1:=by
 obtain⟨a,rfl,ha,hf,e⟩:=open_ok h;have hneg:=first_lt hf;(have hro:rowT (openT t (a:Int) x).1 (a:Int)=(rowT t a).set (firstR (rowT t a)) (freeD t.ds:Nat):=by rw[e];exact row_same ha);(have hlen:(openT t (a:Int) x).1.fs.length=t.fs.length:=by rw[e];exact putF_len _ _ _ _);have hl2:firstR (rowT t a)<(rowT (openT t (a:Int) x).1 (a:Int)).length:=by rw[hro,List.length_set];exact hf
 have hat:(rowT (openT t (a:Int) x).1 (a:Int))[firstR (rowT t a)]=(freeD t.ds:Nat):=by
  (have : ∀(r:List Int) (h:firstR (rowT t a)<r.length),r=(rowT t a).set (firstR (rowT t a)) (freeD t.ds:Nat)→r[firstR (rowT t a)]=(freeD t.ds:Nat):=fun r h e=>by subst e;exact List.getElem_set_self _);exact this _ hl2 hro
 (have e21:(openT t (a:Int) x).2.1=(firstR (rowT t a):Nat):=by rw[e]);rw[e21];have hh:=has_nat (t:=(openT t (a:Int) x).1) (a:=a) (m:=firstR (rowT t a)) (by omega) hl2 (by rw[hat];omega);obtain⟨g1,g2⟩:=get_nat hh hl2;rw[hat]at g1 g2;(have g3:foundT (openT t (a:Int) x).1 a (firstR (rowT t a):Nat) = { x with refs:=1}:=by rw[g2,e];exact desc_put);refine⟨hh,g1,g3,?_,?_⟩
 · unfold closeT
   rw[if_neg (by rw[hh];decide),g1,g3,Int.toNat_natCast,Int.toNat_natCast,Int.toNat_natCast];(have hz:(lessD { x with refs:=1}).refs=0:=by show(1:Int)-1=0;omega);rw[if_pos hz]
   have hds:((openT t (a:Int) x).1.ds.set (freeD t.ds) zeroD)=if freeD t.ds=t.ds.length then t.ds++ [zeroD]else t.ds:=by
    rw[e];show(putD1 _ _ _).set _ _=_;apply List.ext_getElem?;intro j;rw[List.getElem?_set,putD1_at _ _ _ (free_le _),putD1_len];have hfl:=free_le t.ds;have hfz:=free_zero hr;by_cases h1:freeD t.ds=t.ds.length
    · rw[if_pos h1,if_pos h1]
      by_cases h2:freeD t.ds=j
      · rw[if_pos h2,if_pos (by omega),List.getElem?_append_right (by omega),show j-t.ds.length=0 by omega];rfl
      · rw[if_neg h2,if_neg (Ne.symm h2),List.getElem?_append]
        split
        · rfl
        · rw[List.getElem?_eq_none (by omega),List.getElem?_eq_none (by rw[List.length_singleton];omega)]
    · rw[if_neg h1,if_neg h1]
      by_cases h2:freeD t.ds=j
      · subst h2
        rw[if_pos rfl,if_pos (by omega),List.getElem?_eq_getElem (by omega),hfz.2 (by omega)]
      · rw[if_neg h2,if_neg (Ne.symm h2)]
   have hfs:putF (openT t (a:Int) x).1.fs a (firstR (rowT t a)) (-1)=t.fs:=by
    rw[e];have hn:=neg_one hr ha hf hneg;exact put_back ha (by have:=congrArg List.length (row_at ha);omega) (by rw[←hn];exact getE_of (row_at ha).symm _ _)
   rw[hds,hfs];rfl
 · unfold countT
   rw[in_natT ha,in_natT (by rw[hlen];exact ha)];simp only[↓reduceIte];rw[hro,count_put _ _ _ hf hneg (by omega)]
end Go.Proofs.YtinoogmaikhpjaaGreatDoor
namespace Go.Proofs.YtinoogmaikhpjaaGreatDoor
def kindB (kind:Int):Bool:=decide (0≤kind) && decide (kind≤2)
def openB (t:TabL)(i:Int):Bool:=decide (0≤i) && (decide (i<t.ds.length) && decide (1≤(descT t i).refs))
def mateB (i:Nat)(ino:Int)(k:Nat)(y:DescL):Bool:=decide (k≠i) && (decide (1≤y.refs) && decide (y.ino=ino))
def barsB (kind:Int)(y:DescL):Bool:=(decide (kind=2) && decide (y.lock≠0)) || (decide (kind=1) && decide (y.lock=2))
def clashP (ds:List DescL)(i:Nat)(kind ino:Int)(m:Nat):Bool:=(List.range m).any fun k=>mateB i ino k (ds.getD k zeroD) && barsB kind (ds.getD k zeroD)
def clashB (ds:List DescL)(i:Nat)(kind ino:Int):Bool:=clashP ds i kind ino ds.length
def withL (x:DescL)(kind:Int):DescL:= { x with lock:=kind}
def lockT (t:TabL)(i kind:Int):TabL × Int :=
 if kindB kind=false then(t,1)else if openB t i=false then(t,12)else if clashB t.ds i.toNat kind (descT t i).ino=true then(t,14)else(setT t i (withL (descT t i) kind),0)
end Go.Proofs.YtinoogmaikhpjaaGreatDoor
namespace Go.Proofs.YtinoogmaikhpjaaGreatDoor
open Go.RowKit Go.Shelf
abbrev dvalD (d:DescL):Value:= .agg #[.int .i64 d.ino, .int .i64 d.pos, .bool d.rd, .bool d.wr, .int .i64 d.refs, .int .i64 d.lock]
def dcells (d:DescL):List Value:= [.int .i64 d.ino, .int .i64 d.pos, .bool d.rd, .bool d.wr, .int .i64 d.refs, .int .i64 d.lock]
def cellsD (ds:List DescL):List Value:=ds.flatMap dcells
def intC (r:List Int):List Value:=r.map fun x=> .int .i64 x
theorem cellsD_cons (d:DescL)(ds:List DescL):cellsD (d::ds)=dcells d++cellsD ds:=by simp[cellsD]
theorem cellsD_app (a b:List DescL):cellsD (a++b)=cellsD a++cellsD b:=by simp[cellsD]
theorem cellsD_at (ds:List DescL)(k:Nat)(h:k<ds.length)(j:Nat)(hj:j<6):(cellsD ds)[k*6+j]? = (dcells ds[k])[j]?:= by
 induction ds generalizing k with
 | nil=>simp at h
 | cons d ds ih =>
    have l6:(dcells d).length=6:=rfl;rw[cellsD_cons]
    cases k with
    | zero =>
       rw[List.getElem?_append_left (by omega)];simp
    | succ k =>
       rw[List.getElem?_append_right (by omega),l6,show(k+1)*6+j-6=k*6+j by omega];exact ih k (by simpa using h)
theorem cellsD_one (ds:List DescL) : ∀u∈cellsD ds,u.oneCell'=true:=by
 intro u hu;obtain⟨d,_,hu⟩:=List.mem_flatMap.1 hu;simp only[dcells,List.mem_cons,List.not_mem_nil,or_false]at hu;rcases hu with rfl | rfl | rfl | rfl | rfl | rfl<;>rfl
theorem dcells_one (d:DescL) : ∀u∈dcells d,u.oneCell'=true:=fun u hu=>cellsD_one [d] u (by simpa[cellsD]using hu)
theorem intC_at (r:List Int)(k:Nat)(h:k<r.length):(intC r)[k]? = some (.int .i64 r[k]):=by unfold intC;rw[List.getElem?_map,List.getElem?_eq_getElem h];rfl
abbrev RowV:=List Int × Value
def TabX (t:TabL)(vd vf:Value):Thing:=fun X W=>∃rows:List RowV,rows.map (·.1)=t.fs∧RdX 6 vd t.ds.length (cellsD t.ds) X W∧RdX 1 vf rows.length (rows.map (·.2)) X W∧∀m,m∈rows→RdX 1 m.2 m.1.length (intC m.1) X W
theorem TabX.firm (t:TabL)(vd vf:Value):Firm (TabX t vd vf) :=
 Firm.ex fun _=>(Firm.pure _).and ((RdX.firm _ _ _ _).and ((RdX.firm _ _ _ _).and (Firm.all fun _=>RdX.firm _ _ _ _)))
abbrev tabV (ad:Option Addr)(n cap:Nat)(af:Option Addr)(m capf:Nat):Value:= .agg #[.slice ad n cap, .slice af m capf]
theorem rows_len {rows:List RowV}{fs:List (List Int)}(h:rows.map (·.1)=fs):rows.length=fs.length:=by rw[←h,List.length_map]
section
variable {t:TabL} {vd vf:Value} {X:Nat→Prop} {W:World}
theorem TabX.form (h:TabX t vd vf X W) : ∃ad cap af capf,vd = .slice ad t.ds.length cap∧vf = .slice af t.fs.length capf:=by
 obtain⟨rows,e,h1,h2,_⟩:=h;obtain⟨ad,cap,rfl⟩:=h1.form;obtain⟨af,capf,rfl⟩:=h2.form;exact⟨ad,cap,af,capf,rfl,by rw[rows_len e]⟩
theorem TabX.row {ad af:Option Addr}{cap capf:Nat}(h:TabX t (.slice ad t.ds.length cap) (.slice af t.fs.length capf) X W)(k:Nat)(hk:k<t.fs.length) :
 ∃b off ar cr,af=some ⟨b,off,none⟩∧b<W.heap.size∧W.cell? ⟨b,off+k,none⟩=some (.slice ar (t.fs[k]).length cr)∧RdX 1 (.slice ar (t.fs[k]).length cr) (t.fs[k]).length (intC t.fs[k]) X W:=by
 obtain⟨rows,e,h1,h2,h3⟩:=h;have hl:=rows_len e;(have hk':k<rows.length:=by omega);obtain⟨b,off,c,e1,_,_,hb,_,hc⟩:=h2.1.at (by omega);injection e1 with e1 e2 e3;subst e1;have h4:=h3 _ (List.getElem_mem hk')
 have e5:rows[k].1=t.fs[k]:=by
  (have:(rows.map (·.1))[k]? = t.fs[k]?:= by rw[e]);rw[List.getElem?_map,List.getElem?_eq_getElem hk',List.getElem?_eq_getElem hk]at this;simpa using this
 rw[e5]at h4;obtain⟨ar,cr,e6⟩:=h4.form;rw[e6]at h4;refine⟨b,off,ar,cr,rfl,hb,?_,h4⟩;refine hc k _ ?_;rw[List.getElem?_map,List.getElem?_eq_getElem hk',←e6];rfl
theorem RdX.int {r:List Int}{ar:Option Addr}{cr:Nat}(h:RdX 1 (.slice ar r.length cr) r.length (intC r) X W)(k:Nat)(hk:k<r.length) : ∃b off,ar=some ⟨b,off,none⟩∧W.cell? ⟨b,off+k,none⟩=some (.int .i64 r[k]):=by
 obtain⟨b,off,c,e1,_,_,hb,_,hc⟩:=h.1.at (by omega);injection e1 with e1 e2 e3;subst e1;exact⟨b,off,rfl,hc k _ (intC_at r k hk)⟩
theorem TabX.desc {ad af:Option Addr}{cap capf:Nat}(h:TabX t (.slice ad t.ds.length cap) (.slice af t.fs.length capf) X W)(k:Nat)(hk:k<t.ds.length) :
 ∃b off,ad=some ⟨b,off,none⟩∧W.cell? ⟨b,off+k*6,none⟩=some (.int .i64 (t.ds[k]).ino)∧W.cell? ⟨b,off+k*6+1,none⟩=some (.int .i64 (t.ds[k]).pos)∧W.cell? ⟨b,off+k*6+2,none⟩=some (.bool (t.ds[k]).rd)
  ∧ W.cell? ⟨b,off+k*6+3,none⟩=some (.bool (t.ds[k]).wr)∧W.cell? ⟨b,off+k*6+4,none⟩=some (.int .i64 (t.ds[k]).refs)∧W.cell? ⟨b,off+k*6+5,none⟩=some (.int .i64 (t.ds[k]).lock):=by
 obtain⟨rows,e,h1,h2,h3⟩:=h;obtain⟨b,off,c,e1,_,_,hb,_,hc⟩:=h1.1.at (by omega);injection e1 with e1 e2 e3;subst e1;(have g:=fun(j:Nat) (hj:j<6) (u:Value) (hu:(dcells t.ds[k])[j]? = some u)=>(show W.cell? ⟨b,off+k*6+j,none⟩=some u by rw[Nat.add_assoc];exact hc _ u ((cellsD_at _ k hk j hj).trans hu)));exact⟨b,off,rfl,g 0 (by omega) _ rfl,g 1 (by omega) _ rfl,g 2 (by omega) _ rfl,g 3 (by omega) _ rfl,g 4 (by omega) _ rfl,g 5 (by omega) _ rfl⟩
end
structure OwnT (tD tS tI:TypeId) (base:Nat) (t:TabL) (vd vf:Value) (rows:List RowV) (W:World):Prop where
 fs:rows.map (·.1)=t.fs
 ds:W.ownsRow base tD 6 vd t.ds.length (cellsD t.ds)
 out:W.ownsRow base tS 1 vf rows.length (rows.map (·.2))
 row : ∀m∈rows,W.ownsRow base tI 1 m.2 m.1.length (intC m.1)
 apart : ∀(i j:Nat) (a b:RowV),rows[i]? = some a→rows[j]? = some b→i≠j→∀g,a.2.ownBlock=some g→b.2.ownBlock≠some g
section
variable {tD tS tI:TypeId} {base:Nat} {t:TabL} {vd vf:Value} {rows:List RowV} {X:Nat→Prop} {W W':World}
theorem OwnT.tab (h:OwnT tD tS tI base t vd vf rows W)(hX : ∀g,X g→g<base):TabX t vd vf X W :=
 ⟨rows,h.fs,RdX.own h.ds hX,RdX.own h.out hX,fun m hm=>RdX.own (h.row m hm) hX⟩
theorem OwnT.below (h:OwnT tD tS tI base t vd vf rows W)(hb:Below W.heap.size W W'):OwnT tD tS tI base t vd vf rows W' :=
 ⟨h.fs,ownsRow_below h.ds hb (Nat.le_refl _),ownsRow_below h.out hb (Nat.le_refl _),fun m hm=>ownsRow_below (h.row m hm) hb (Nat.le_refl _),h.apart⟩
theorem own_type {b:Nat}{e:TypeId}{s n:Nat}{v:Value}{xs:List Value}(h:W.ownsRow b e s v n xs){g:Nat}(hg:v.ownBlock=some g) : ∃cs,W.heap[g]? = some (.cells cs e (0,0)):=by
 rcases h.2 with⟨rfl,_⟩ | ⟨g',cap,cur,rfl,_,h2,_⟩
 · cases hg
 · have:g'=g:=by injection hg
   subst this;exact⟨cur,h2⟩
theorem own_other {b:Nat}{e:TypeId}{s n:Nat}{v:Value}{xs:List Value}(h:W.ownsRow b e s v n xs){g:Nat}(hg:v.ownBlock≠some g)(ho : ∀k,k≠g→W'.heap[k]? = W.heap[k]?):W'.ownsRow b e s v n xs:=by
 refine⟨h.1,h.2.imp id ?_⟩;rintro⟨g',cap,cur,rfl,h1,h2,h3⟩;exact⟨g',cap,cur,rfl,h1,(ho g' (fun e=>hg (by rw[e];rfl))).trans h2,h3⟩
theorem OwnT.other (h:OwnT tD tS tI base t vd vf rows W){g:Nat}{cs:Array Value}{e:TypeId}(hg:W.heap[g]? = some (.cells cs e (0,0)))(hD:e≠tD)(hS:e≠tS)(hI:e≠tI)(ho : ∀k,k≠g→W'.heap[k]? = W.heap[k]?):OwnT tD tS tI base t vd vf rows W':=by
 have ne : ∀ {b:Nat} {e':TypeId} {s n:Nat} {v:Value} {xs:List Value},W.ownsRow b e' s v n xs→e≠e'→v.ownBlock≠some g:=fun h he hv=>by
  obtain⟨cs',h2⟩:=own_type h hv;rw[hg]at h2;injection h2 with h2;injection h2 with _ h2;exact he h2
 exact⟨h.fs,own_other h.ds (ne h.ds hD) ho,own_other h.out (ne h.out hS) ho,fun m hm=>own_other (h.row m hm) (ne (h.row m hm) hI) ho,h.apart⟩
theorem take_seg {α:Type}(L vs:List α)(o m:Nat)(h:m≤L.length)(ho:o+vs.length≤m):(L.take o++(vs++L.drop (o+vs.length))).take m=(L.take m).take o++(vs++(L.take m).drop (o+vs.length)):=by
 (have l1:(L.take o).length=o:=by rw[List.length_take];omega);(have l2:((L.take m).take o).length=o:=by rw[List.length_take,List.length_take];omega);apply List.ext_getElem?;intro j;rw[List.getElem?_take];by_cases hj:j<m
 · rw[if_pos hj]
   by_cases h9:j<o
   · rw[List.getElem?_append_left (by omega),List.getElem?_append_left (by omega),List.getElem?_take,List.getElem?_take,List.getElem?_take,if_pos hj]
   · have e1:(L.take o++(vs++L.drop (o+vs.length)))[j]? = (vs++L.drop (o+vs.length))[j-o]?:= by rw[List.getElem?_append_right (by omega),l1]
     (have e2:((L.take m).take o++(vs++(L.take m).drop (o+vs.length)))[j]? = (vs++(L.take m).drop (o+vs.length))[j-o]?:= by rw[List.getElem?_append_right (by omega),l2]);rw[e1,e2];by_cases h10:j-o<vs.length
     · rw[List.getElem?_append_left h10,List.getElem?_append_left h10]
     · have e3:(vs++L.drop (o+vs.length))[j-o]? = L[j]?:= by rw[List.getElem?_append_right (by omega),List.getElem?_drop];congr 1;omega
       (have e4:(vs++(L.take m).drop (o+vs.length))[j-o]? = L[j]?:= by rw[List.getElem?_append_right (by omega),List.getElem?_drop,show o+vs.length+(j-o-vs.length)=j by omega,List.getElem?_take,if_pos hj]);rw[e3,e4]
 · rw[if_neg hj]
   symm;rw[List.getElem?_eq_none];rw[List.length_append,List.length_append,l2,List.length_drop,List.length_take];omega
theorem own_seg {b:Nat}{e:TypeId}{s n:Nat}{g cap:Nat}{xs ys:List Value}(h:W.ownsRow b e s (.slice (some ⟨g,0,none⟩) n cap) n xs){o:Nat}{vs:List Value}(ho:o+vs.length≤n*s)
 (hy:ys=xs.take o++(vs++xs.drop (o+vs.length))) (hg:W'.heap[g]? = (W.setCells g o vs).heap[g]?):W'.ownsRow b e s (.slice (some ⟨g,0,none⟩) n cap) n ys:=by
  rcases h.2 with⟨e1,_⟩ | ⟨g',cap',cur,e1,h1,h2,h3,h4,h5,h6⟩
  · cases e1
  injection e1 with e1 e2 e3;injection e1 with e1;injection e1 with e1 _ _;subst e1;subst e3;have hl:=h.1;obtain⟨cs',h7,h8⟩:=heap_setCells_same vs o W cur h2
  have hcs:cs'.toList=cur.toList.take o++(vs++cur.toList.drop (o+vs.length)):=by
   have hr:=World.rangeAt_setCells_same W g o vs (by
    intro j hj;refine⟨?_,Lib.frozen_of_heap h2 _⟩;rw[Lib.cell_of_heap h2,Array.getElem?_eq_getElem (by have:n*s≤cap*s:=Nat.mul_le_mul_right _ h3;omega)]
    rfl)
   have hoth : ∀j,(j<o∨o+vs.length≤j)→cs'[j]? = cur[j]?:= fun j hj=>by
    have:=World.cell?_setCells_out g vs o W ⟨g,j,none⟩ (fun _ _=>hj);rw[Lib.cell_of_heap h7,Lib.cell_of_heap h2]at this;exact this
   apply List.ext_getElem?;intro j;rw[Array.getElem?_toList];have hsz:n*s≤cap*s:=Nat.mul_le_mul_right _ h3;by_cases hj:j<o
   · rw[hoth j (.inl hj),List.getElem?_append_left (by rw[List.length_take,Array.length_toList];omega),List.getElem?_take,if_pos hj,Array.getElem?_toList]
   · have hlt:(cur.toList.take o).length=o:=by rw[List.length_take,Array.length_toList];omega
     rw[List.getElem?_append_right (by omega),hlt];by_cases hj2:j<o+vs.length
     · rw[List.getElem?_append_left (by omega)]
       have hr2:=hr (j-o) _ (List.getElem?_eq_getElem (show j-o<vs.length by omega));rw[Lib.cell_of_heap h7,show o+(j-o)=j by omega]at hr2;rw[hr2,List.getElem?_eq_getElem (by omega)]
     · rw[hoth j (.inr (by omega)),List.getElem?_append_right (by omega),List.getElem?_drop,Array.getElem?_toList]
       congr 1;omega
  refine⟨?_, .inr ⟨g,cap,cs',rfl,h1,hg.trans h7,h3,h4,by rw[h8];exact h5,?_⟩⟩
  · rw[hy,List.length_append,List.length_append,List.length_take,List.length_drop]
    omega
  · rw[hcs,hy,←h6]
    exact take_seg _ _ _ _ (by have:n*s≤cap*s:=Nat.mul_le_mul_right _ h3;rw[Array.length_toList];omega) ho
theorem own_at {b:Nat}{e:TypeId}{s n:Nat}{v:Value}{xs:List Value}(h:W.ownsRow b e s v n xs)(hn:0<n) : ∃g cap,v = .slice (some ⟨g,0,none⟩) n cap∧g<W.heap.size∧(∀j u,xs[j]? = some u→W.cell? ⟨g,j,none⟩=some u)∧(∀j,W.frozen? ⟨g,j,none⟩=false):=by
 rcases h.2 with⟨_,h0⟩ | ⟨g,cap,cur,rfl,h1,h2,h3,h4,h5,h6⟩
 · omega
 refine⟨g,cap,rfl,(Array.getElem?_eq_some_iff.1 h2).1,fun j u hu=> ?_,fun j=>Lib.frozen_of_heap h2 j⟩;rw[Lib.cell_of_heap h2];rw[←h6,List.getElem?_take]at hu;split at hu
 · rw[←Array.getElem?_toList];exact hu
 · cases hu
end
end Go.Proofs.YtinoogmaikhpjaaGreatDoor
namespace Go.Proofs.YtinoogmaikhpjaaGreatDoor
open Go.RowKit Go.Shelf
attribute [local go_sem ↓] Go.wp_at_zero Go.wp_at_succ
theorem TabX.range {t:TabL}{X:Nat→Prop}{W:World}{ad af:Option Addr}{cap capf:Nat}(h:TabX t (.slice ad t.ds.length cap) (.slice af t.fs.length capf) X W)(k:Nat)(hk:k<t.ds.length) : ∃b off,ad=some ⟨b,off,none⟩∧W.rangeAt b (off+k*6) (dcells t.ds[k]):=by
 obtain⟨b,off,e,c0,c1,c2,c3,c4,c5⟩:=h.desc k hk;refine⟨b,off,e,fun j v hv=> ?_⟩
 have hj:j<6:=by
  rcases Nat.lt_or_ge j 6 with h | h
  · exact h
  · rw[List.getElem?_eq_none (by exact h)]at hv;cases hv
 (have:j=0∨j=1∨j=2∨j=3∨j=4∨j=5:=by omega);rcases this with rfl | rfl | rfl | rfl | rfl | rfl<;>(injection hv with hv;subst hv;assumption)
def SizeT (t:TabL):Prop:=t.ds.length≤1000∧t.fs.length≤20∧∀r∈t.fs,r.length≤20
theorem count_step (r:List Int)(k:Nat)(h:k<r.length):countR (r.take (k+1))=countR (r.take k)+if 0≤r[k]then 1 else 0:=by
 unfold countR;rw[List.take_succ_eq_append_getElem h,List.countP_append,List.countP_singleton];simp only[decide_eq_true_eq]
theorem count_le (r:List Int):countR r≤r.length:=List.countP_le_length
set_option maxRecDepth 100000 in
set_option maxHeartbeats 4000000 in
theorem rcount_c {X:Nat→Prop}(t:TabL)(ad af:Option Addr)(cap capf:Nat)(w:World)(hT:TabX t (.slice ad t.ds.length cap) (.slice af t.fs.length capf) X w)(p:Int)(hz:SizeT t) :
 Calls Tryz.prog 17 #[tabV ad t.ds.length cap af t.fs.length capf, .int .i64 p] w fun e w'=>e = .returned (.int .i64 (countT t p))∧Below w.heap.size w w':=by
 have S0:=Lib.hid (Sf.start (w:=w) (X:=fun _=>False) (G:= [TabX t (.slice ad t.ds.length cap) (.slice af t.fs.length capf)]) (fun _ h=>h.elim) (th1 (TabX.firm _ _ _) ((TabX.firm _ _ _).sub hT fun _ h=>h.elim)));have HZ:=Lib.hid hz;clear hT hz;go_enter Tryz.func17,Tryz.ntmps17;go_upto_region 1 with(fail);refine code_fresh1 ?_;intro W1 hb hA0 hs;have S1:=Lib.hid (S0.out.new1 hb hA0);clear hb hA0 hs;obtain⟨d0,d1⟩:=cells2 (S1.out.at 0 rfl);by_cases h1:p<0
 · have i1:decide (p<0)=true:=decide_eq_true h1
   have HC:Hid (countT t p=0):=Lib.hid (by unfold countT inT;rw[decide_eq_false (show ¬0≤p by omega)];rfl);go_wp2_with fail;go_ret;exact⟨by rw[HC.out];rfl,S1.out.bel⟩
 · have i1:decide (p<0)=false:=decide_eq_false h1
   by_cases h2:(t.fs.length:Int)≤p
   · have i2:decide ((t.fs.length:Int)≤p)=true:=decide_eq_true h2
     have HC:Hid (countT t p=0):=Lib.hid (by unfold countT inT;rw[decide_eq_false (show ¬p<(t.fs.length:Int)by omega)];simp);go_wp2_with fail;go_ret;exact⟨by rw[HC.out];rfl,S1.out.bel⟩
   · have i2:decide ((t.fs.length:Int)≤p)=false:=decide_eq_false h2
     obtain⟨a,rfl⟩:=Int.eq_ofNat_of_zero_le (show 0≤p by omega);have i21:decide (t.fs.length≤a)=false:=decide_eq_false (by omega);(have ha:a<t.fs.length:=by omega);(have a0:(0:Int)≤(a:Int):=by omega);(have a1:(a:Int)<(t.fs.length:Int):=by omega);clear h1 h2;have HC:Hid (countT t a=countR (t.fs[a])):=Lib.hid (by unfold countT inT;rw[decide_eq_true (show(0:Int)≤(a:Int)by omega),decide_eq_true (show(a:Int)<(t.fs.length:Int)by omega),row_at ha];rfl);have hzr:=HZ.out.2.2 _ (List.getElem_mem ha);obtain⟨b,off,ar,cr,eaf,_,cR,hR⟩:=TabX.row (S1.out.g 0 rfl) a ha;subst eaf;obtain⟨r,hrow⟩ : ∃r,r=t.fs[a]:=⟨_,rfl⟩;rw[←hrow]at cR hR HC hzr;clear hrow;go_wp2_with fail;go_loop [5,6] (fun n i=>∃k:Nat,i = .int .i64 k∧k≤r.length∧n = .int .i64 (countR (r.take k):Nat)) (fun _ i=>r.length-(RowKit.intOf i).toNat)
     case atStart=>exact⟨0,rfl,Nat.zero_le _,rfl⟩
     case round =>
      obtain⟨k,rfl,hk,rfl⟩:=hrel;by_cases hlt:k<r.length
      · have iL:decide (k<r.length)=true:=decide_eq_true hlt
        have iL2:decide ((k:Int)<(r.length:Int))=true:=decide_eq_true (by omega);obtain⟨b2,off2,ear,cI⟩:=RdX.int hR k hlt;subst ear;obtain⟨v,hv⟩ : ∃v,v=r[k]:=⟨_,rfl⟩;have HS:=Lib.hid (count_step r k hlt);have hle:countR (r.take k)≤20:=Nat.le_trans (count_le _) (by rw[List.length_take];omega);rw[←hv]at cI HS;(have k0:(0:Int)≤(k:Int):=by omega);(have k1:(k:Int)<(r.length:Int):=by omega);have w1:IntKind.i64.wrap ((k:Int)+1)=(k:Int)+1:=Go.IntWalk.i64_in _ (by omega);obtain⟨c,hc⟩ : ∃c,c=countR (r.take k):=⟨_,rfl⟩;rw[←hc]at HS hle ⊢;have w2:IntKind.i64.wrap ((c:Int)+1)=(c:Int)+1:=Go.IntWalk.i64_in _ (by omega);by_cases h5:0≤v
        · have i5:decide (0≤v)=true:=decide_eq_true h5
          have HS2:=Lib.hid (HS.out.trans (by rw[if_pos h5]));clear hv h5 hc;go_wp2_with fail;go_round
          case rel=>exact⟨k+1,by go_num,hlt,by rw[HS2.out];go_num⟩
          case measure=>simp[RowKit.intOf];omega
        · have i5:decide (0≤v)=false:=decide_eq_false h5
          have HS2:=Lib.hid (HS.out.trans (by rw[if_neg h5]));clear hv h5 hc;go_wp2_with fail;go_round
          case rel=>exact⟨k+1,by go_num,hlt,by rw[HS2.out];rfl⟩
          case measure=>simp[RowKit.intOf];omega
      · have iL:decide (k<r.length)=false:=decide_eq_false hlt
        have iL2:decide ((k:Int)<(r.length:Int))=false:=decide_eq_false (by omega);have HF:Hid (r.take k=r):=Lib.hid (List.take_of_length_le (by omega));clear hlt;go_wp2_with fail;go_ret;refine⟨?_,S1.out.bel⟩;rw[HC.out,HF.out];rfl
end Go.Proofs.YtinoogmaikhpjaaGreatDoor
