import Derived.Test.YtmiekcdkamgknaaGreatDoorR15
import Derived.Test.YtmiekcdkamgknaaGreatDoorR17
import Derived.Test.YtmiekcdkamgknaaGreatDoorR24
import Derived.Test.YtmiekcdkamgknaaGreatDoorR11
namespace Go.Proofs.YtmiekcdkamgknaaGreatDoor
def fileE (l:List NodeL)(i:Int):Int:=if gotB l i=false then 2 else if(getL l i).kind=2 then 5 else if(getL l i).kind≠1 then 1 else 0
def restD (d:Nm)(i:Int):Nm:=if(d.length:Int)<i then[]else d.drop i.toNat
def headD (d:Nm)(n:Int):Nm:=if n<(d.length:Int)then d.take n.toNat else d
def partD (d:Nm)(i n:Int):Nm:=headD (restD d i) n
def readL (l:List NodeL)(i a n:Int):Nm × Int:=if fileE l i≠0 then([],fileE l i)else if a<0∨n<0 then([],1)else(partD (getL l i).data a n,0)
def padD (d:Nm)(n:Int):Nm:=d++List.replicate (n-d.length).toNat 0
def putD (d s:Nm)(a:Int):Nm:=(padD d a).take a.toNat++s++(padD d a).drop (a.toNat+s.length)
def dataN (n:NodeL)(d:Nm):NodeL:= { n with data:=d}
abbrev CntL:=List NodeL × Int
def keptL (l:List NodeL)(room i:Int)(d:Nm):CntL:=if(getL l i).data.length<d.length∧room<(bytesL l:Int)+d.length-(getL l i).data.length then(l,10)else(setL l i (dataN (getL l i) d),0)
def writeL (l:List NodeL)(room i a:Int)(s:Nm):CntL :=
 if fileE l i≠0 then(l,fileE l i)else if a<0 then(l,1)else if s = []then(l,0)else if 1000<a then(l,10)else keptL l room i (putD (getL l i).data s a)
def cutL (l:List NodeL)(room i n:Int):CntL :=
 if fileE l i≠0 then(l,fileE l i)else if n<0 then(l,1)else if n≤((getL l i).data.length:Int)then keptL l room i ((getL l i).data.take n.toNat)else if 1000<n then(l,10)else keptL l room i (padD (getL l i).data n)
theorem part_get (d:Nm)(i n k:Nat):(partD d i n)[k]? = if k<n then d[i+k]? else none:=by
 unfold partD headD restD;by_cases h:(d.length:Int)<i
 · rw[if_pos h]
   simp only[List.length_nil];have e:d[i+k]? = none:=List.getElem?_eq_none (by omega);rw[e];split<;>split<;>simp
 · rw[if_neg h,Int.toNat_natCast]
   by_cases h2:(n:Int)<((d.drop i).length:Int)
   · rw[if_pos h2,Int.toNat_natCast,List.getElem?_take,List.getElem?_drop]
   · rw[if_neg h2,List.getElem?_drop]
     split
     · rfl
     · rw[List.length_drop]at h2
       exact List.getElem?_eq_none (by omega)
theorem file_got {l:List NodeL}{i:Int}(h:fileE l i=0):gotB l i=true∧(getL l i).kind=1:=by
 unfold fileE at h;split at h
 · cases h
 · rename_i hg
   split at h
   · cases h
   · split at h
     · cases h
     · rename_i h2
       exact⟨by simpa using hg,by simpa using h2⟩
end Go.Proofs.YtmiekcdkamgknaaGreatDoor
namespace Go.Proofs.YtmiekcdkamgknaaGreatDoor
structure DescL where
 ino:Int
 pos:Int
 rd:Bool
 wr:Bool
 refs:Int
 lock:Int
def zeroD:DescL:=⟨0,0,false,false,0,0⟩
theorem desc_ext {a b:DescL}(h0:a.ino=b.ino)(h1:a.pos=b.pos)(h2:a.rd=b.rd)(h3:a.wr=b.wr)(h4:a.refs=b.refs)(h5:a.lock=b.lock):a=b:=by
 cases a;cases b;simp_all
instance:DecidableEq DescL:=fun a b =>
 if h:a.ino=b.ino∧a.pos=b.pos∧a.rd=b.rd∧a.wr=b.wr∧a.refs=b.refs∧a.lock=b.lock then .isTrue (desc_ext h.1 h.2.1 h.2.2.1 h.2.2.2.1 h.2.2.2.2.1 h.2.2.2.2.2)
 else .isFalse fun e=>h (by subst e;exact⟨rfl,rfl,rfl,rfl,rfl,rfl⟩)
structure TabL where
 ds:List DescL
 fs:List (List Int)
def rowT (t:TabL)(p:Int):List Int:=t.fs.getD p.toNat []
def inT (t:TabL)(p:Int):Bool:=decide (0≤p) && decide (p<t.fs.length)
def atR (r:List Int)(k:Int):Int:=r.getD k.toNat 0
def hasT (t:TabL)(p fd:Int):Bool:=inT t p && (decide (0≤fd) && decide (fd<(rowT t p).length)) && decide (0≤atR (rowT t p) fd)
def descT (t:TabL)(i:Int):DescL:=t.ds.getD i.toNat zeroD
def placeT (t:TabL)(p fd:Int):Int:=if hasT t p fd then atR (rowT t p) fd else -1
def foundT (t:TabL)(p fd:Int):DescL:=if hasT t p fd then descT t (atR (rowT t p) fd)else zeroD
def setT (t:TabL)(i:Int)(x:DescL):TabL:=if i<0∨(t.ds.length:Int)≤i∨(descT t i).refs<1 then t else⟨t.ds.set i.toNat { x with refs:=(descT t i).refs},t.fs⟩
def countR (r:List Int):Nat:=r.countP fun x=>decide (0≤x)
def countT (t:TabL)(p:Int):Nat:=if inT t p then countR (rowT t p)else 0
def firstR (r:List Int):Nat:=r.findIdx fun x=>decide (x<0)
def freeD (ds:List DescL):Nat:=ds.findIdx fun d=>decide (d.refs≤0)
def putF (fs:List (List Int))(p k:Nat)(v:Int):List (List Int):=fs.set p ((fs.getD p []).set k v)
def putD1 (ds:List DescL)(i:Nat)(x:DescL):List DescL:=if i=ds.length then ds++ [x]else ds.set i x
def openT (t:TabL)(p:Int)(x:DescL):TabL × Int × Int :=
 if inT t p=false then(t,0,1)else if(rowT t p).length≤firstR (rowT t p)then(t,0,13)
 else(⟨putD1 t.ds (freeD t.ds) { x with refs:=1},putF t.fs p.toNat (firstR (rowT t p)) (freeD t.ds)⟩,firstR (rowT t p),0)
def dupT (t:TabL)(p fd:Int):TabL × Int × Int :=
 if hasT t p fd=false then(t,0,12)else if(rowT t p).length≤firstR (rowT t p)then(t,0,13)
 else(⟨t.ds.set (placeT t p fd).toNat { foundT t p fd with refs:=(foundT t p fd).refs+1},putF t.fs p.toNat (firstR (rowT t p)) (placeT t p fd)⟩,firstR (rowT t p),0)
def lessD (d:DescL):DescL:= { d with refs:=d.refs-1}
def closeT (t:TabL)(p fd:Int):TabL × DescL × Int :=
 if hasT t p fd=false then(t,zeroD,12)
 else(⟨t.ds.set (placeT t p fd).toNat (if(lessD (foundT t p fd)).refs=0 then zeroD else lessD (foundT t p fd)),putF t.fs p.toNat fd.toNat (-1)⟩,lessD (foundT t p fd),0)
def refsOf (fs:List (List Int))(i:Int):Nat:=(fs.map fun r=>r.count i).sum
def rowOk (n:Nat)(r:List Int):Prop:=r.length=8∧∀x∈r, -1≤x∧x<(n:Int)
def descOk (fs:List (List Int))(i:Nat)(d:DescL):Prop:=d.refs=refsOf fs i∧(refsOf fs i=0→d=zeroD)
def RightT (t:TabL):Prop:=(∀r∈t.fs,rowOk t.ds.length r)∧∀i d,t.ds[i]? = some d→descOk t.fs i d
theorem count_set (r:List Int)(k:Nat)(v j:Int)(h:k<r.length):(r.set k v).count j+(if r[k]=j then 1 else 0)=r.count j+(if v=j then 1 else 0):=by
 induction r generalizing k with
 | nil=>cases h
 | cons a r ih =>
    cases k with
    | zero =>
       simp only[List.set_cons_zero,List.count_cons,List.getElem_cons_zero,beq_iff_eq];omega
    | succ k =>
       have:=ih k (by simpa using h);simp only[List.set_cons_succ,List.count_cons,List.getElem_cons_succ,beq_iff_eq]at this ⊢;omega
theorem sum_set (l:List (List Int))(f:List Int→Nat)(p:Nat)(x:List Int)(h:p<l.length):((l.set p x).map f).sum+f l[p]=(l.map f).sum+f x:=by
 induction l generalizing p with
 | nil=>cases h
 | cons a l ih =>
    cases p with
    | zero=>simp only[List.set_cons_zero,List.map_cons,List.sum_cons,List.getElem_cons_zero];omega
    | succ p =>
       have:=ih p (by simpa using h);simp only[List.set_cons_succ,List.map_cons,List.sum_cons,List.getElem_cons_succ]at this ⊢;omega
theorem getD_at {α:Type}{l:List α}{p:Nat}{d:α}(h:p<l.length):l.getD p d=l[p]:=by
 rw[List.getD_eq_getElem?_getD,List.getElem?_eq_getElem h];rfl
theorem refs_put (fs:List (List Int))(p k:Nat)(v j:Int)(hp:p<fs.length)(hk:k<fs[p].length):refsOf (putF fs p k v) j+(if fs[p][k]=j then 1 else 0)=refsOf fs j+(if v=j then 1 else 0):=by
 unfold refsOf putF;rw[getD_at hp];have h1:=sum_set fs (fun r=>r.count j) p (fs[p].set k v) hp;have h2:=count_set fs[p] k v j hk;omega
theorem refs_le (fs:List (List Int))(p k:Nat)(hp:p<fs.length)(hk:k<fs[p].length):1≤refsOf fs fs[p][k]:=by
 have:=refs_put fs p k (fs[p][k]+1) fs[p][k] hp hk;rw[if_pos rfl,if_neg (by omega)]at this;omega
theorem refs_none {t:TabL}(h:RightT t){j:Int}(hj:(t.ds.length:Int)≤j):refsOf t.fs j=0:=by
 unfold refsOf
 have : ∀l:List (List Int),(∀r∈l,∀x∈r,x<(t.ds.length:Int))→(l.map fun r=>r.count j).sum=0:=fun l=>by
  induction l with
  | nil=>intro _;rfl
  | cons a l ih =>
     intro hl;rw[List.map_cons,List.sum_cons,ih (fun r hr=>hl r (List.mem_cons_of_mem _ hr)),List.count_eq_zero.2 (fun hm=>by have:=hl a List.mem_cons_self j hm;omega)]
 exact this _ fun r hr x hx=>((h.1 r hr).2 x hx).2
theorem refs_bound (fs:List (List Int))(j:Int)(a b:Nat)(ha:fs.length≤a)(hb : ∀r∈fs,r.length≤b):refsOf fs j≤a*b:=by
 unfold refsOf
 have : ∀l:List (List Int),(∀r∈l,r.length≤b)→(l.map fun r=>r.count j).sum≤l.length*b:=fun l=>by
  induction l with
  | nil=>intro _;simp
  | cons c l ih =>
     intro hl;(have h1:=ih fun r hr=>hl r (List.mem_cons_of_mem _ hr));have h2:=hl c List.mem_cons_self;have h3:c.count j≤c.length:=List.count_le_length;simp only[List.map_cons,List.sum_cons,List.length_cons,Nat.add_mul];omega
 exact Nat.le_trans (this fs hb) (Nat.mul_le_mul_right _ ha)
theorem in_T {t:TabL}{p:Int}(h:inT t p=true) : ∃k:Nat,p=k∧k<t.fs.length:=by
 unfold inT at h;simp only[Bool.and_eq_true,decide_eq_true_iff]at h;obtain⟨k,rfl⟩:=Int.eq_ofNat_of_zero_le h.1;exact⟨k,rfl,by omega⟩
theorem row_at {t:TabL}{k:Nat}(h:k<t.fs.length):rowT t (k:Int)=t.fs[k]:=by unfold rowT;rw[Int.toNat_natCast,getD_at h]
theorem row_right {t:TabL}(h:RightT t){k:Nat}(hk:k<t.fs.length):rowOk t.ds.length (rowT t k):=by rw[row_at hk];exact h.1 _ (List.getElem_mem _)
theorem at_R {r:List Int}{k:Nat}(h:k<r.length):atR r (k:Int)=r[k]:=by unfold atR;rw[Int.toNat_natCast,getD_at h]
theorem place_T {t:TabL}(hr:RightT t){k m:Nat}(hk:k<t.fs.length)(hm:m<(rowT t k).length)(h0:0≤atR (rowT t k) m) : ∃i:Nat,atR (rowT t k) m=i∧i<t.ds.length∧1≤refsOf t.fs i:=by
 obtain⟨i,hi⟩:=Int.eq_ofNat_of_zero_le h0;have h1:=(row_right hr hk).2 (atR (rowT t k) m) (by rw[at_R hm];exact List.getElem_mem _);refine⟨i,hi,by omega,?_⟩;have hm':m<t.fs[k].length:=by rwa [row_at hk]at hm
 have e:t.fs[k][m]=(i:Int):=by
  rw[←hi,at_R hm];(have : ∀(r:List Int) (h:m<r.length),r=t.fs[k]→t.fs[k][m]=r[m]:=fun r h e=>by subst e;rfl);exact this _ _ (row_at hk)
 have:=refs_le t.fs k m hk hm'
 rwa [e]at this
theorem desc_at {t:TabL}{i:Nat}(h:i<t.ds.length):descT t (i:Int)=t.ds[i]:=by unfold descT;rw[Int.toNat_natCast,getD_at h]
theorem desc_right {t:TabL}(hr:RightT t){i:Nat}(h:i<t.ds.length):descOk t.fs i t.ds[i]:=hr.2 i _ (List.getElem?_eq_getElem h)
theorem first_lt {r:List Int}(h:firstR r<r.length):r[firstR r]<0:=by
 have:=List.findIdx_getElem (p:=fun x=>decide (x<0)) (xs:=r) (w:=h);exact of_decide_eq_true this
theorem first_min {r:List Int}{k:Nat}(hk:k<firstR r) : ∃h:k<r.length,0≤r[k]:=by
 have hl:k<r.length:=Nat.lt_of_lt_of_le hk List.findIdx_le_length;refine⟨hl,?_⟩;have:=List.not_of_lt_findIdx (p:=fun x=>decide (x<0)) (xs:=r) hk;exact Int.not_lt.1 (by simpa using this)
theorem free_le (ds:List DescL):freeD ds≤ds.length:=List.findIdx_le_length
theorem free_lt {ds:List DescL}(h:freeD ds<ds.length):ds[freeD ds].refs≤0:=by
 have:=List.findIdx_getElem (p:=fun d:DescL=>decide (d.refs≤0)) (xs:=ds) (w:=h);exact of_decide_eq_true this
theorem free_zero {t:TabL}(hr:RightT t):refsOf t.fs (freeD t.ds)=0∧∀h:freeD t.ds<t.ds.length,t.ds[freeD t.ds]=zeroD:=by
 rcases Nat.lt_or_ge (freeD t.ds) t.ds.length with h | h
 · have h1:=free_lt h
   have h2:=desc_right hr h;(have h3:refsOf t.fs (freeD t.ds)=0:=by have:=h2.1;omega);exact⟨h3,fun _=>h2.2 h3⟩
 · exact⟨refs_none hr (by omega),fun h'=>absurd h' (by omega)⟩
theorem putD1_len (ds:List DescL)(i:Nat)(x:DescL):(putD1 ds i x).length=if i=ds.length then ds.length+1 else ds.length:=by
 unfold putD1;split
 · rw[List.length_append];rfl
 · rw[List.length_set]
theorem putD1_at (ds:List DescL)(i:Nat)(x:DescL)(hi:i≤ds.length)(j:Nat):(putD1 ds i x)[j]? = if j=i then some x else ds[j]?:= by
 unfold putD1;split
 · rename_i h
   subst h;rw[List.getElem?_append];by_cases hj:j<ds.length
   · rw[if_pos hj,if_neg (by omega)]
   · rw[if_neg hj]
     by_cases e:j=ds.length
     · subst e;rw[if_pos rfl,Nat.sub_self];rfl
     · rw[if_neg e,List.getElem?_eq_none (by rw[List.length_singleton];omega),List.getElem?_eq_none (by omega)]
 · rename_i h
   rw[List.getElem?_set];by_cases e:i=j
   · subst e;rw[if_pos rfl,if_pos rfl,if_pos (by omega)]
   · rw[if_neg e,if_neg (Ne.symm e)]
theorem putF_len (fs:List (List Int))(p k:Nat)(v:Int):(putF fs p k v).length=fs.length:=by unfold putF;rw[List.length_set]
theorem putF_rows {fs:List (List Int)}{p k:Nat}{v:Int}(hp:p<fs.length){n m:Nat}(h : ∀r∈fs,rowOk n r)(hv : -1≤v∧v<(m:Int))(hm:n≤m) : ∀r∈putF fs p k v,rowOk m r:=by
 intro r hr;unfold putF at hr;rw[getD_at hp]at hr;(have hgood : ∀r∈fs,rowOk m r:=fun r hr=>⟨(h r hr).1,fun x hx=>⟨((h r hr).2 x hx).1,by have:=((h r hr).2 x hx).2;omega⟩⟩);rcases List.mem_or_eq_of_mem_set hr with hr | rfl
 · exact hgood r hr
 · have h1:=hgood fs[p] (List.getElem_mem _)
   refine⟨by rw[List.length_set];exact h1.1,fun x hx=> ?_⟩;rcases List.mem_or_eq_of_mem_set hx with hx | rfl
   · exact h1.2 x hx
   · exact hv
theorem getE_of {r s:List Int}{k:Nat}(e:r=s)(h:k<r.length)(h':k<s.length):r[k]=s[k]:=by subst e;rfl
theorem right_put {t:TabL}(hr:RightT t){p k:Nat}(hp:p<t.fs.length)(hk:k<(rowT t p).length){v:Int}{ds':List DescL}
 (hv : -1≤v∧v<(ds'.length:Int)) (hl:t.ds.length≤ds'.length)
 (h : ∀(i:Nat) (d:DescL),ds'[i]? = some d→∀n:Nat,n+(if atR (rowT t p) k=(i:Int)then 1 else 0)=refsOf t.fs i+(if v=(i:Int)then 1 else 0)→d.refs=(n:Int)∧(n=0→d=zeroD)):RightT ⟨ds',putF t.fs p k v⟩:=by
  (have hk':k<t.fs[p].length:=by rwa [row_at hp]at hk);(have e:t.fs[p][k]=atR (rowT t p) k:=by rw[at_R hk];exact getE_of (row_at hp).symm _ _);refine⟨putF_rows hp hr.1 hv hl,fun i d hd=> ?_⟩;have h1:=refs_put t.fs p k v i hp hk';rw[e]at h1;exact h i d hd _ h1
theorem right_open {t:TabL}(hr:RightT t)(p:Int)(x:DescL):RightT (openT t p x).1:=by
 unfold openT;split
 · exact hr
 · rename_i h1
   obtain⟨k,rfl,hk⟩:=in_T (by simpa using h1);split
   · exact hr
   · rename_i h2
     (have hf:firstR (rowT t k)<(rowT t k).length:=by omega);have hz:=free_zero hr;have hle:=free_le t.ds;(have hneg:atR (rowT t k) (firstR (rowT t k):Nat)<0:=by rw[at_R hf];exact first_lt hf);have hlen:=putD1_len t.ds (freeD t.ds) { x with refs:=1};rw[Int.toNat_natCast];refine right_put hr hk hf ⟨by omega,?_⟩ ?_ fun i d hd n hn=> ?_
     · rw[hlen];split<;>omega
     · rw[hlen];split<;>omega
     · rw[if_neg (by omega)]at hn
       rw[putD1_at _ _ _ hle]at hd;by_cases e:i=freeD t.ds
       · subst e
         rw[if_pos rfl]at hd hn;injection hd with hd;subst hd;(have:n=1:=by omega);subst this;exact⟨rfl,fun h=>by cases h⟩
       · rw[if_neg e]at hd
         rw[if_neg (by omega)]at hn;have h3:=hr.2 i d hd;rw[show n=refsOf t.fs i by omega];exact h3
theorem found_at {t:TabL}{k m i:Nat}(h:hasT t k m=true)(hi:atR (rowT t k) m=(i:Int))(hl:i<t.ds.length):placeT t k m=i∧foundT t k m=t.ds[i]:=by
 unfold placeT foundT;rw[if_pos h,if_pos h,hi];exact⟨rfl,desc_at hl⟩
end Go.Proofs.YtmiekcdkamgknaaGreatDoor
namespace Go.Proofs.YtmiekcdkamgknaaGreatDoor
theorem in_natT {t:TabL}{k:Nat}(h:k<t.fs.length):inT t (k:Int)=true:=by
 unfold inT;rw[decide_eq_true (show(0:Int)≤(k:Int)by omega),decide_eq_true (show(k:Int)<(t.fs.length:Int)by omega)];rfl
theorem row_same {t:TabL}{ds':List DescL}{a k:Nat}{v:Int}(ha:a<t.fs.length):rowT ⟨ds',putF t.fs a k v⟩ (a:Int)=(rowT t a).set k v:=by
 unfold rowT putF;rw[Int.toNat_natCast,getD_at (by rw[List.length_set];exact ha),List.getElem_set_self]
theorem row_other {t:TabL}{ds':List DescL}{a b k:Nat}{v:Int}(hne:a≠b):rowT ⟨ds',putF t.fs a k v⟩ (b:Int)=rowT t b:=by
 unfold rowT putF;rw[Int.toNat_natCast,List.getD_eq_getElem?_getD,List.getElem?_set_ne hne,←List.getD_eq_getElem?_getD]
theorem in_put {t:TabL}{ds':List DescL}{a k:Nat}{v p:Int}:inT ⟨ds',putF t.fs a k v⟩ p=inT t p:=by
 unfold inT;rw[show(TabL.mk ds' (putF t.fs a k v)).fs.length=t.fs.length from putF_len _ _ _ _]
theorem has_nat {t:TabL}{a m:Nat}(ha:a<t.fs.length)(hm:m<(rowT t a).length)(h0:0≤(rowT t a)[m]):hasT t (a:Int) (m:Int)=true:=by
 unfold hasT;rw[in_natT ha,at_R hm,decide_eq_true h0,decide_eq_true (show(0:Int)≤(m:Int)by omega),decide_eq_true (show(m:Int)<((rowT t a).length:Int)by omega)];rfl
theorem get_nat {t:TabL}{a m:Nat}(h:hasT t (a:Int) (m:Int)=true)(hm:m<(rowT t a).length):placeT t a m=(rowT t a)[m]∧foundT t a m=descT t (rowT t a)[m]:=by
 unfold placeT foundT;rw[if_pos h,if_pos h,at_R hm];exact⟨rfl,rfl⟩
theorem set_back {r:List Int}{k:Nat}{v w:Int}(hk:k<r.length)(h:r[k]=w):(r.set k v).set k w=r:=by
 rw[List.set_set,←h,List.set_getElem_self]
theorem put_back {fs:List (List Int)}{a k:Nat}{v w:Int}(ha:a<fs.length)(hk:k<fs[a].length)(h:fs[a][k]=w):putF (putF fs a k v) a k w=fs:=by
 unfold putF;rw[getD_at (show a<(fs.set a ((fs.getD a []).set k v)).length by rw[List.length_set];exact ha),List.getElem_set_self,getD_at ha,set_back hk h,List.set_set,List.set_getElem_self]
theorem neg_one {t:TabL}(hr:RightT t){a k:Nat}(ha:a<t.fs.length)(hk:k<(rowT t a).length)(h:(rowT t a)[k]<0):(rowT t a)[k] = -1:=by
 have:=((row_right hr ha).2 _ (List.getElem_mem hk)).1;omega
theorem open_ok {t:TabL}{p:Int}{x:DescL}(h:(openT t p x).2.2=0) : ∃a:Nat,p=a∧a<t.fs.length∧firstR (rowT t a)<(rowT t a).length∧openT t p x=((⟨putD1 t.ds (freeD t.ds) { x with refs:=1},putF t.fs a (firstR (rowT t a)) (freeD t.ds:Nat)⟩:TabL),((firstR (rowT t a):Nat):Int),(0:Int)):=by
 unfold openT at h ⊢;split at h
 · cases h
 · rename_i h1
   rw[if_neg h1];obtain⟨a,rfl,ha⟩:=in_T (by simpa using h1);split at h
   · cases h
   · rename_i h2
     rw[if_neg h2,Int.toNat_natCast];exact⟨a,rfl,ha,by omega,rfl⟩
theorem count_put (r:List Int)(k:Nat)(v:Int)(hk:k<r.length)(h1:r[k]<0)(h2:0≤v):countR (r.set k v)=countR r+1:=by
 unfold countR
 induction r generalizing k with
 | nil=>cases hk
 | cons a r ih =>
    cases k with
    | zero =>
       simp only[List.getElem_cons_zero]at h1;rw[List.set_cons_zero,List.countP_cons_of_pos (by simpa using h2),List.countP_cons_of_neg (by simpa using h1)]
    | succ k =>
       have:=ih k (by simpa using hk) (by simpa using h1);rw[List.set_cons_succ,List.countP_cons,List.countP_cons,this];omega
theorem desc_put {t:TabL}{fs':List (List Int)}{x:DescL}:descT ⟨putD1 t.ds (freeD t.ds) x,fs'⟩ (freeD t.ds:Nat)=x:=by
 unfold descT;rw[Int.toNat_natCast,List.getD_eq_getElem?_getD,putD1_at _ _ _ (free_le _),if_pos rfl];rfl
theorem back_open {t:TabL}(hr:RightT t){p:Int}{x:DescL}(h:(openT t p x).2.2=0) :
 hasT (openT t p x).1 p (openT t p x).2.1=true∧placeT (openT t p x).1 p (openT t p x).2.1=(freeD t.ds:Nat)∧foundT (openT t p x).1 p (openT t p x).2.1 = { x with refs:=1}
  ∧ closeT (openT t p x).1 p (openT t p x).2.1=((⟨if freeD t.ds=t.ds.length then t.ds++ [zeroD]else t.ds,t.fs⟩:TabL),({ x with refs:=0}:DescL),(0:Int))∧countT (openT t p x).1 p=countT t p+1:=by
 obtain⟨a,rfl,ha,hf,e⟩:=open_ok h;have hneg:=first_lt hf;(have hro:rowT (openT t (a:Int) x).1 (a:Int)=(rowT t a).set (firstR (rowT t a)) (freeD t.ds:Nat):=by rw[e];exact row_same ha);(have hlen:(openT t (a:Int) x).1.fs.length=t.fs.length:=by rw[e];exact putF_len _ _ _ _);have hl2:firstR (rowT t a)<(rowT (openT t (a:Int) x).1 (a:Int)).length:=by rw[hro,List.length_set];exact hf
 have hat:(rowT (openT t (a:Int) x).1 (a:Int))[firstR (rowT t a)]=(freeD t.ds:Nat):=by
  (have : ∀(r:List Int) (h:firstR (rowT t a)<r.length),r=(rowT t a).set (firstR (rowT t a)) (freeD t.ds:Nat)→r[firstR (rowT t a)]=(freeD t.ds:Nat):=fun r h e=>by subst e;exact List.getElem_set_self _);exact this _ hl2 hro
 (have e21:(openT t (a:Int) x).2.1=(firstR (rowT t a):Nat):=by rw[e]);rw[e21];have hh:=has_nat (t:=(openT t (a:Int) x).1) (a:=a) (m:=firstR (rowT t a)) (by omega) hl2 (by rw[hat];omega);obtain⟨g1,g2⟩:=get_nat hh hl2;rw[hat]at g1 g2;(have g3:foundT (openT t (a:Int) x).1 a (firstR (rowT t a):Nat) = { x with refs:=1}:=by rw[g2,e];exact desc_put);refine⟨hh,g1,g3,?_,?_⟩
 · unfold closeT
   rw[if_neg (by rw[hh];decide),g1,g3,Int.toNat_natCast,Int.toNat_natCast,Int.toNat_natCast];(have hz:(lessD { x with refs:=1}).refs=0:=by show(1:Int)-1=0;omega);rw[if_pos hz]
   have hds:((openT t (a:Int) x).1.ds.set (freeD t.ds) zeroD)=if freeD t.ds=t.ds.length then t.ds++ [zeroD]else t.ds:=by
    rw[e];show(putD1 _ _ _).set _ _=_;apply List.ext_getElem?;intro j;rw[List.getElem?_set,putD1_at _ _ _ (free_le _),putD1_len];have hfl:=free_le t.ds;have hfz:=free_zero hr;by_cases h1:freeD t.ds=t.ds.length
    · rw[if_pos h1,if_pos h1]
      by_cases h2:freeD t.ds=j
      · rw[if_pos h2,if_pos (by omega),List.getElem?_append_right (by omega),show j-t.ds.length=0 by omega];rfl
      · rw[if_neg h2,if_neg (Ne.symm h2),List.getElem?_append]
        split
        · rfl
        · rw[List.getElem?_eq_none (by omega),List.getElem?_eq_none (by rw[List.length_singleton];omega)]
    · rw[if_neg h1,if_neg h1]
      by_cases h2:freeD t.ds=j
      · subst h2
        rw[if_pos rfl,if_pos (by omega),List.getElem?_eq_getElem (by omega),hfz.2 (by omega)]
      · rw[if_neg h2,if_neg (Ne.symm h2)]
   have hfs:putF (openT t (a:Int) x).1.fs a (firstR (rowT t a)) (-1)=t.fs:=by
    rw[e];have hn:=neg_one hr ha hf hneg;exact put_back ha (by have:=congrArg List.length (row_at ha);omega) (by rw[←hn];exact getE_of (row_at ha).symm _ _)
   rw[hds,hfs];rfl
 · unfold countT
   rw[in_natT ha,in_natT (by rw[hlen];exact ha)];simp only[↓reduceIte];rw[hro,count_put _ _ _ hf hneg (by omega)]
end Go.Proofs.YtmiekcdkamgknaaGreatDoor
namespace Go.Proofs.YtmiekcdkamgknaaGreatDoor
def kindB (kind:Int):Bool:=decide (0≤kind) && decide (kind≤2)
def openB (t:TabL)(i:Int):Bool:=decide (0≤i) && (decide (i<t.ds.length) && decide (1≤(descT t i).refs))
def mateB (i:Nat)(ino:Int)(k:Nat)(y:DescL):Bool:=decide (k≠i) && (decide (1≤y.refs) && decide (y.ino=ino))
def barsB (kind:Int)(y:DescL):Bool:=(decide (kind=2) && decide (y.lock≠0)) || (decide (kind=1) && decide (y.lock=2))
def clashP (ds:List DescL)(i:Nat)(kind ino:Int)(m:Nat):Bool:=(List.range m).any fun k=>mateB i ino k (ds.getD k zeroD) && barsB kind (ds.getD k zeroD)
def clashB (ds:List DescL)(i:Nat)(kind ino:Int):Bool:=clashP ds i kind ino ds.length
def withL (x:DescL)(kind:Int):DescL:= { x with lock:=kind}
def lockT (t:TabL)(i kind:Int):TabL × Int :=
 if kindB kind=false then(t,1)else if openB t i=false then(t,12)else if clashB t.ds i.toNat kind (descT t i).ino=true then(t,14)else(setT t i (withL (descT t i) kind),0)
theorem open_in {t:TabL}{i:Int}(h:openB t i=true) : ∃a:Nat,∃h:a<t.ds.length,i=(a:Int)∧1≤(t.ds[a]).refs∧descT t i=t.ds[a]:=by
 unfold openB at h;simp only[Bool.and_eq_true,decide_eq_true_iff]at h;obtain⟨a,rfl⟩:=Int.eq_ofNat_of_zero_le h.1;(have ha:a<t.ds.length:=by omega);have e:=desc_at ha;exact⟨a,ha,rfl,by rw[←e];exact h.2.2,e⟩
theorem lock_kind {t:TabL}{i kind:Int}(h:kindB kind=false):lockT t i kind=(t,1):=if_pos h
theorem lock_bad {t:TabL}{i kind:Int}(h:kindB kind=true)(h2:openB t i=false):lockT t i kind=(t,12):=by unfold lockT;rw[if_neg (by rw[h];decide),if_pos h2]
theorem lock_again {t:TabL}{i kind:Int}(h:kindB kind=true)(h2:openB t i=true)(h3:clashB t.ds i.toNat kind (descT t i).ino=true):lockT t i kind=(t,14):=by
 unfold lockT;rw[if_neg (by rw[h];decide),if_neg (by rw[h2];decide),if_pos h3]
theorem lock_goes {t:TabL}{i kind:Int}(h:kindB kind=true)(h2:openB t i=true)(h3:clashB t.ds i.toNat kind (descT t i).ino=false):lockT t i kind=(setT t i (withL (descT t i) kind),0):=by
 unfold lockT;rw[if_neg (by rw[h];decide),if_neg (by rw[h2];decide),if_neg (by rw[h3];decide)]
theorem set_withL {t:TabL}{a:Nat}(h:a<t.ds.length)(h1:1≤(t.ds[a]).refs)(kind:Int):setT t (a:Int) (withL t.ds[a] kind)=⟨t.ds.set a (withL t.ds[a] kind),t.fs⟩:=by
 unfold setT;rw[desc_at h,if_neg (by omega),Int.toNat_natCast];rfl
theorem lock_cases (t:TabL)(i kind:Int):((lockT t i kind).1=t∧((lockT t i kind).2=1∨(lockT t i kind).2=12∨(lockT t i kind).2=14)) ∨
 (∃a:Nat,∃h:a<t.ds.length,i=(a:Int)∧1≤(t.ds[a]).refs∧(0≤kind∧kind≤2)∧clashB t.ds a kind (t.ds[a]).ino=false∧lockT t i kind=(⟨t.ds.set a (withL t.ds[a] kind),t.fs⟩,0)):=by
  cases hk:kindB kind with
  | false=>rw[lock_kind hk];exact .inl ⟨rfl, .inl rfl⟩
  | true =>
     cases ho:openB t i with
     | false=>rw[lock_bad hk ho];exact .inl ⟨rfl, .inr (.inl rfl)⟩
     | true =>
        cases hc:clashB t.ds i.toNat kind (descT t i).ino with
        | true=>rw[lock_again hk ho hc];exact .inl ⟨rfl, .inr (.inr rfl)⟩
        | false =>
           obtain⟨a,ha,rfl,hr,hd⟩:=open_in ho;refine .inr ⟨a,ha,rfl,hr,?_,?_,?_⟩
           · unfold kindB at hk;simpa only[Bool.and_eq_true,decide_eq_true_iff]using hk
           · rw[hd,Int.toNat_natCast]at hc;exact hc
           · rw[lock_goes hk ho hc,hd,set_withL ha hr]
theorem lock_len (t:TabL)(i kind:Int):(lockT t i kind).1.ds.length=t.ds.length:=by
 rcases lock_cases t i kind with⟨h,_⟩ | ⟨a,ha,_,_,_,_,e⟩
 · rw[h]
 · rw[e];exact List.length_set ..
end Go.Proofs.YtmiekcdkamgknaaGreatDoor
