import Derived.Test.YtmiekcdkamgknaaGreatDoorR25
import Derived.Test.YtmiekcdkamgknaaGreatDoorR31
import Derived.Test.YtmiekcdkamgknaaGreatDoorR34
import Derived.Test.YtmiekcdkamgknaaGreatDoorR24
import Derived.Test.YtmiekcdkamgknaaGreatDoorR32
namespace Go.Proofs.YtmiekcdkamgknaaGreatDoor
open Go.RowKit
structure ProcL where
 who:Int
 umask:Int
 cwd:Int
 live:Bool
def zeroP:ProcL:=⟨0,0,0,false⟩
theorem proc_ext {a b:ProcL}(h0:a.who=b.who)(h1:a.umask=b.umask)(h2:a.cwd=b.cwd)(h3:a.live=b.live):a=b:=by cases a;cases b;simp_all
instance:DecidableEq ProcL:=fun a b =>
 decidable_of_iff (a.who=b.who∧a.umask=b.umask∧a.cwd=b.cwd∧a.live=b.live) ⟨fun⟨h0,h1,h2,h3⟩=>proc_ext h0 h1 h2 h3,fun h=>by subst h;simp⟩
structure KernL where
 l:List NodeL
 most:Int
 room:Int
 t:TabL
 ps:List ProcL
structure CallL where
 kind:Int
 fd:Int
 fd2:Int
 n:Int
 mode:Int
 flags:Int
 path:Nm
 path2:Nm
 data:Nm
structure InfoL where
 ino:Int
 kind:Int
 mode:Int
 owner:Int
 links:Int
 size:Int
def zeroI:InfoL:=⟨0,0,0,0,0,0⟩
theorem info_ext {a b:InfoL}(h0:a.ino=b.ino)(h1:a.kind=b.kind)(h2:a.mode=b.mode)(h3:a.owner=b.owner)(h4:a.links=b.links)(h5:a.size=b.size):a=b:=by cases a;cases b;simp_all
instance:DecidableEq InfoL:=fun a b =>
 decidable_of_iff (a.ino=b.ino∧a.kind=b.kind∧a.mode=b.mode∧a.owner=b.owner∧a.links=b.links∧a.size=b.size) ⟨fun⟨h0,h1,h2,h3,h4,h5⟩=>info_ext h0 h1 h2 h3 h4 h5,fun h=>by subst h;simp⟩
structure ReplyL where
 e:Int
 n:Int
 s:Nm
 ls:List Nm
 i:InfoL
theorem reply_ext {a b:ReplyL}(h0:a.e=b.e)(h1:a.n=b.n)(h2:a.s=b.s)(h3:a.ls=b.ls)(h4:a.i=b.i):a=b:=by cases a;cases b;simp_all
instance:DecidableEq ReplyL:=fun a b =>
 decidable_of_iff (a.e=b.e∧a.n=b.n∧a.s=b.s∧a.ls=b.ls∧a.i=b.i) ⟨fun⟨h0,h1,h2,h3,h4⟩=>reply_ext h0 h1 h2 h3 h4,fun h=>by subst h;simp⟩
def errR (e:Int):ReplyL:=⟨e,0,[],[],zeroI⟩
def numR (n:Int):ReplyL:=⟨0,n,[],[],zeroI⟩
def textR (s:Nm):ReplyL:=⟨0,0,s,[],zeroI⟩
def listR (ls:List Nm):ReplyL:=⟨0,0,[],ls,zeroI⟩
def infoR (i:InfoL):ReplyL:=⟨0,0,[],[],i⟩
abbrev DoL:=KernL × ReplyL
def procL (ps:List ProcL)(p:Int):ProcL:=ps.getD p.toNat zeroP
def liveB (ps:List ProcL)(p:Int):Bool:=decide (0≤p) && (decide (p<ps.length) && (procL ps p).live)
def hasF (flags f:Int):Bool:=decide (bits .and .i64 flags f≠0)
def withD (k:KernL)(l:List NodeL):KernL:= { k with l:=l}
def withT (k:KernL)(t:TabL):KernL:= { k with t:=t}
def baseK (k:KernL)(p fd:Int):Int × Int :=
 if fd = -1 then((procL k.ps p).cwd,0)else if hasT k.t p fd=false then(0,12)
 else if(nodeL k.l (foundT k.t p fd).ino).kind≠2 then(0,4)else((foundT k.t p fd).ino,0)
def opnN (n:NodeL)(b:Int):NodeL:= { n with opn:=n.opn+b}
def openedL (l:List NodeL)(i b:Int):List NodeL:=settleL (setL l i (opnN (nodeL l i) b)) i
def onlyB (flags:Int):Bool:=hasF flags 4 && hasF flags 8
def followB (flags:Int):Bool:= !hasF flags 64 && !onlyB flags
def newD (flags i:Int):DescL:=⟨i,0,hasF flags 1,hasF flags 2,0,0⟩
def fitE (n:NodeL)(who flags:Int)(only:Bool):Int :=
 if only=true then 3 else if n.kind=3 then 8 else if n.kind=2∧hasF flags 2=true then 5 else if n.kind≠2∧hasF flags 32=true then 4
 else if(hasF flags 1=true∧mayB n.mode n.owner who 4=false)∨(hasF flags 2=true∧mayB n.mode n.owner who 2=false)then 7 else 0
def fitL (l:List NodeL)(room who i flags:Int)(only:Bool):ChgL :=
 if fitE (nodeL l i) who flags only≠0 then(l,fitE (nodeL l i) who flags only)
 else if hasF flags 16=true∧hasF flags 2=true then cutL l room i 0 else(l,0)
def openAt (k:KernL)(p flags:Int)(l:List NodeL)(i e:Int):DoL :=
 if e≠0 then(k,errR e)else(⟨openedL l i 1,k.most,k.room,(openT k.t p (newD flags i)).1,k.ps⟩,numR (openT k.t p (newD flags i)).2.1)
def openNew (k:KernL)(p fr:Int)(c:CallL):DoL :=
 if hasF c.flags 4=false then(k,errR 2)else if hasF c.flags 32=true then(k,errR 4)
 else openAt k p c.flags (mkfileL k.l k.most k.room (procL k.ps p).who fr c.path (maskI c.mode (procL k.ps p).umask)).1 (mkfileL k.l k.most k.room (procL k.ps p).who fr c.path (maskI c.mode (procL k.ps p).umask)).2.1
  (mkfileL k.l k.most k.room (procL k.ps p).who fr c.path (maskI c.mode (procL k.ps p).umask)).2.2
def openOld (k:KernL)(p i:Int)(c:CallL):DoL:=openAt k p c.flags (fitL k.l k.room (procL k.ps p).who i c.flags (onlyB c.flags)).1 i (fitL k.l k.room (procL k.ps p).who i c.flags (onlyB c.flags)).2
def openFrom (k:KernL)(p fr:Int)(c:CallL):DoL :=
 if(walkL k.l (procL k.ps p).who fr c.path (followB c.flags)).2≠0 then(k,errR (walkL k.l (procL k.ps p).who fr c.path (followB c.flags)).2)
 else if(walkL k.l (procL k.ps p).who fr c.path (followB c.flags)).1.ino<0 then openNew k p fr c
 else openOld k p (walkL k.l (procL k.ps p).who fr c.path (followB c.flags)).1.ino c
def openK (k:KernL)(p:Int)(c:CallL):DoL :=
 if hasF c.flags 3=false then(k,errR 1)else if countT k.t p=8 then(k,errR 13)
 else if(baseK k p c.fd).2≠0 then(k,errR (baseK k p c.fd).2)else openFrom k p (baseK k p c.fd).1 c
def shutK (k:KernL)(p fd:Int):DoL :=
 if(closeT k.t p fd).2.2≠0 then(k,errR (closeT k.t p fd).2.2)
 else(⟨if(closeT k.t p fd).2.1.refs=0 then openedL k.l (closeT k.t p fd).2.1.ino (-1)else k.l,k.most,k.room,(closeT k.t p fd).1,k.ps⟩,errR 0)
def posD (x:DescL)(n:Int):DescL:= { x with pos:=x.pos+n}
def readK (k:KernL)(i:Int)(x:DescL)(n:Int):DoL :=
 if(readL k.l x.ino x.pos n).2≠0 then(k,errR (readL k.l x.ino x.pos n).2)
 else(withT k (setT k.t i (posD x (readL k.l x.ino x.pos n).1.length)),textR (readL k.l x.ino x.pos n).1)
def writeK (k:KernL)(i:Int)(x:DescL)(s:Nm):DoL :=
 if(writeL k.l k.room x.ino x.pos s).2≠0 then(k,errR (writeL k.l k.room x.ino x.pos s).2)
 else(⟨(writeL k.l k.room x.ino x.pos s).1,k.most,k.room,setT k.t i (posD x s.length),k.ps⟩,numR s.length)
def listK (k:KernL)(x:DescL):DoL:=if(nodeL k.l x.ino).kind≠2 then(k,errR 4)else(k,listR ((nodeL k.l x.ino).names.map (·.1)))
def flockK (k:KernL)(i n:Int):DoL:=if(lockT k.t i n).2≠0 then(k,errR (lockT k.t i n).2)else(withT k (lockT k.t i n).1,errR 0)
def dupK (k:KernL)(p fd:Int):DoL:=if(dupT k.t p fd).2.2≠0 then(k,errR (dupT k.t p fd).2.2)else(withT k (dupT k.t p fd).1,numR (dupT k.t p fd).2.1)
def badB (k:KernL)(p:Int)(c:CallL):Bool :=
 !hasT k.t p c.fd || (decide (c.kind=3∨c.kind=13) && !(foundT k.t p c.fd).rd || decide (c.kind=4) && !(foundT k.t p c.fd).wr)
def descK (k:KernL)(p:Int)(c:CallL):DoL :=
 if badB k p c=true then(k,errR 12)
 else if c.kind=3 then readK k (placeT k.t p c.fd) (foundT k.t p c.fd) c.n
 else if c.kind=4 then writeK k (placeT k.t p c.fd) (foundT k.t p c.fd) c.data
 else if c.kind=13 then listK k (foundT k.t p c.fd)
 else if c.kind=15 then flockK k (placeT k.t p c.fd) c.n
 else dupK k p c.fd
def renamedK (k:KernL)(p:Int)(c:CallL):DoL :=
 if(baseK k p c.fd).2≠0 then(k,errR (baseK k p c.fd).2)else if(baseK k p c.fd2).2≠0 then(k,errR (baseK k p c.fd2).2)
 else(withD k (renameL k.l (procL k.ps p).who (baseK k p c.fd).1 (procL k.ps p).who (baseK k p c.fd2).1 c.path c.path2).1,
  errR (renameL k.l (procL k.ps p).who (baseK k p c.fd).1 (procL k.ps p).who (baseK k p c.fd2).1 c.path c.path2).2)
def changeL (k:KernL)(who umask fr:Int)(c:CallL):ChgL :=
 if c.kind=5 then mkdirL k.l k.most k.room who fr c.path (maskI c.mode umask)
 else if c.kind=6 then rmdirL k.l who fr c.path
 else if c.kind=7 then unlinkL k.l who fr c.path
 else if c.kind=9 then linkL k.l who fr c.path c.path2
 else if c.kind=10 then symlinkL k.l k.most k.room who fr c.data c.path
 else if c.kind=16 then chmodL k.l who fr c.path c.mode else(k.l,0)
def changedK (k:KernL)(p:Int)(c:CallL):DoL :=
 if(baseK k p c.fd).2≠0 then(k,errR (baseK k p c.fd).2)
 else(withD k (changeL k (procL k.ps p).who (procL k.ps p).umask (baseK k p c.fd).1 c).1,errR (changeL k (procL k.ps p).who (procL k.ps p).umask (baseK k p c.fd).1 c).2)
def infoL (l:List NodeL)(i:Int):InfoL:=⟨i,(nodeL l i).kind,(nodeL l i).mode,(nodeL l i).owner,(nodeL l i).links,(nodeL l i).data.length⟩
def cwdP (x:ProcL)(i:Int):ProcL:= { x with cwd:=i}
def chdirK (k:KernL)(p i:Int):DoL :=
 (⟨openedL (openedL k.l i 1) (procL k.ps p).cwd (-1),k.most,k.room,k.t,k.ps.set p.toNat (cwdP (procL k.ps p) i)⟩,errR 0)
def lookFollow (c:CallL):Bool:=decide (c.kind=14) || decide (c.kind=12) && !hasF c.flags 64
def lookAt (k:KernL)(p i:Int)(c:CallL):DoL :=
 if c.kind=12 then(k,infoR (infoL k.l i))
 else if c.kind=11∧(nodeL k.l i).kind≠3 then(k,errR 1)
 else if c.kind=11 then(k,textR (nodeL k.l i).data)
 else if(nodeL k.l i).kind≠2 then(k,errR 4)
 else if mayB (nodeL k.l i).mode (nodeL k.l i).owner (procL k.ps p).who 1=false then(k,errR 7)
 else chdirK k p i
def lookedK (k:KernL)(p:Int)(c:CallL):DoL :=
 if(baseK k p c.fd).2≠0 then(k,errR (baseK k p c.fd).2)
 else if(wnodeL (walkL k.l (procL k.ps p).who (baseK k p c.fd).1 c.path (lookFollow c))).2≠0 then(k,errR (wnodeL (walkL k.l (procL k.ps p).who (baseK k p c.fd).1 c.path (lookFollow c))).2)
 else lookAt k p (wnodeL (walkL k.l (procL k.ps p).who (baseK k p c.fd).1 c.path (lookFollow c))).1 c
def doK (k:KernL)(p:Int)(c:CallL):DoL :=
 if liveB k.ps p=false∨c.kind<1∨17<c.kind then(k,errR 1)
 else if c.kind=1 then openK k p c
 else if c.kind=2 then shutK k p c.fd
 else if c.kind=3∨c.kind=4∨c.kind=13∨c.kind=15∨c.kind=17 then descK k p c
 else if c.kind=8 then renamedK k p c
 else if c.kind=11∨c.kind=12∨c.kind=14 then lookedK k p c
 else changedK k p c
def opensD (ds:List DescL)(j:Int):Nat:=ds.countP fun d=>decide (0<d.refs) && decide (d.ino=j)
def opensP (ps:List ProcL)(j:Int):Nat:=ps.countP fun x=>x.live && decide (x.cwd=j)
def opensN (k:KernL)(j:Int):Nat:=opensD k.t.ds j+opensP k.ps j
def procOk (k:KernL)(p:Nat):Bool :=
 if liveB k.ps p=true then decide ((nodeL k.l (procL k.ps p).cwd).kind=2) && (decide (0≤(procL k.ps p).umask) && decide ((procL k.ps p).umask≤63))else decide (countT k.t p=0)
def descGot (k:KernL)(d:DescL):Bool:= !decide (0<d.refs) || gotB k.l d.ino
def nodeOpn (k:KernL)(j:Nat):Bool:=decide ((nd k.l j).kind=0) || decide ((nd k.l j).opn=opensN k j)
def rightK (k:KernL):Bool :=
 (rightR k.l k.most k.room && (rightB k.t && (decide (k.t.fs.length=8) && decide (k.ps.length≤8)))) && ((List.range 8).all (procOk k) && (k.t.ds.all (descGot k) && (List.range k.l.length).all (nodeOpn k)))
structure RigK (k:KernL):Prop where
 disk:rightR k.l k.most k.room=true
 tab:RightT k.t
 eight:k.t.fs.length=8
 procs:k.ps.length≤8
 idle : ∀p:Nat,p<8→liveB k.ps p=false→countT k.t p=0
 cwd : ∀p:Nat,liveB k.ps p=true→(nodeL k.l (procL k.ps p).cwd).kind=2∧0≤(procL k.ps p).umask∧(procL k.ps p).umask≤63
 ino : ∀d∈k.t.ds,0<d.refs→gotB k.l d.ino=true
 opn : ∀j:Nat,(nd k.l j).kind≠0→(nd k.l j).opn=opensN k j
theorem live_in {ps:List ProcL}{p:Int}(h:liveB ps p=true) : ∃a:Nat,∃ha:a<ps.length,p=a∧procL ps p=ps[a]∧ps[a].live=true:=by
 unfold liveB at h;simp only[Bool.and_eq_true,decide_eq_true_iff]at h;obtain⟨a,rfl⟩:=Int.eq_ofNat_of_zero_le h.1;(have ha:a<ps.length:=by omega);(have e:procL ps (a:Int)=ps[a]:=by unfold procL;rw[Int.toNat_natCast,getD_at ha]);exact⟨a,ha,rfl,e,by rw[←e];exact h.2.2⟩
theorem live_at {ps:List ProcL}{a:Nat}(ha:a<ps.length):liveB ps (a:Int)=ps[a].live∧procL ps (a:Int)=ps[a]:=by
 (have e:procL ps (a:Int)=ps[a]:=by unfold procL;rw[Int.toNat_natCast,getD_at ha]);refine⟨?_,e⟩;unfold liveB;rw[e,decide_eq_true (show(0:Int)≤(a:Int)by omega),decide_eq_true (show(a:Int)<(ps.length:Int)by omega)];rfl
theorem right_K (k:KernL):rightK k=true↔RigK k:=by
 unfold rightK;simp only[Bool.and_eq_true,decide_eq_true_iff,List.all_eq_true,List.mem_range];constructor
 · rintro⟨⟨h1,h2,h3,h4⟩,h5,h6,h7⟩
   refine⟨h1,right_B.1 h2,h3,h4,fun p hp hl=> ?_,fun p hl=> ?_,fun d hd hr=> ?_,fun j hj=> ?_⟩
   · have:=h5 p hp
     unfold procOk at this;rw[if_neg (by rw[hl];decide)]at this;simpa using this
   · obtain⟨a,ha,e,_,_⟩:=live_in hl
     have:=h5 p (by omega);unfold procOk at this;rw[if_pos hl]at this;simpa only[Bool.and_eq_true,decide_eq_true_iff]using this
   · have:=h6 d hd
     unfold descGot at this;rw[decide_eq_true hr]at this;simpa using this
   · have:=h7 j (nd_kind hj)
     unfold nodeOpn at this;rw[decide_eq_false hj]at this;simpa using this
 · intro h
   refine⟨⟨h.disk,right_B.2 h.tab,h.eight,h.procs⟩,fun p hp=> ?_,fun d hd=> ?_,fun j hj=> ?_⟩
   · unfold procOk
     split
     · rename_i hl
       simpa only[Bool.and_eq_true,decide_eq_true_iff]using h.cwd p hl
     · rename_i hl
       simpa using h.idle p hp (by simpa using hl)
   · unfold descGot
     by_cases hr:0<d.refs
     · rw[h.ino d hd hr];simp
     · rw[decide_eq_false hr];rfl
   · unfold nodeOpn
     by_cases hk:(nd k.l j).kind=0
     · rw[decide_eq_true hk];rfl
     · rw[decide_eq_true (h.opn j hk)];simp
end Go.Proofs.YtmiekcdkamgknaaGreatDoor
namespace Go.Proofs.YtmiekcdkamgknaaGreatDoor
open Go.RowKit Go.Shelf
def prcells (x:ProcL):List Value:= [.int .i64 x.who, .int .i64 x.umask, .int .i64 x.cwd, .bool x.live]
def cellsP (ps:List ProcL):List Value:=ps.flatMap prcells
theorem cellsP_cons (x:ProcL)(ps:List ProcL):cellsP (x::ps)=prcells x++cellsP ps:=by simp[cellsP]
theorem cellsP_at (ps:List ProcL)(k:Nat)(h:k<ps.length)(j:Nat)(hj:j<4):(cellsP ps)[k*4+j]? = (prcells ps[k])[j]?:= by
 induction ps generalizing k with
 | nil=>simp at h
 | cons d ds ih =>
    have l4:(prcells d).length=4:=rfl;rw[cellsP_cons]
    cases k with
    | zero =>
       rw[List.getElem?_append_left (by omega)];simp
    | succ k =>
       rw[List.getElem?_append_right (by omega),l4,show(k+1)*4+j-4=k*4+j by omega];exact ih k (by simpa using h)
theorem cellsP_one (ps:List ProcL) : ∀u∈cellsP ps,u.oneCell'=true:=by
 intro u hu;obtain⟨d,_,hu⟩:=List.mem_flatMap.1 hu;simp only[prcells,List.mem_cons,List.not_mem_nil,or_false]at hu;rcases hu with rfl | rfl | rfl | rfl<;>rfl
def PsX (ps:List ProcL)(v:Value):Thing:=RdX 4 v ps.length (cellsP ps)
theorem PsX.firm (ps:List ProcL)(v:Value):Firm (PsX ps v):=RdX.firm _ _ _ _
def DiskX (l:List NodeL)(v:Value):Thing:=fun X W=>GivesX X l v W
theorem DiskX.firm (l:List NodeL)(v:Value):Firm (DiskX l v):=⟨fun h hb hY=>GivesX.add h hb hY,fun h hX hs hg=>GivesX.other h hX hs hg⟩
section
variable {ps:List ProcL} {X:Nat→Prop} {W W':World}
theorem PsX.proc {ap:Option Addr}{cap:Nat}(h:PsX ps (.slice ap ps.length cap) X W)(k:Nat)(hk:k<ps.length) :
 ∃b off,ap=some ⟨b,off,none⟩∧W.cell? ⟨b,off+k*4,none⟩=some (.int .i64 (ps[k]).who)∧W.cell? ⟨b,off+k*4+1,none⟩=some (.int .i64 (ps[k]).umask)∧W.cell? ⟨b,off+k*4+2,none⟩=some (.int .i64 (ps[k]).cwd)∧W.cell? ⟨b,off+k*4+3,none⟩=some (.bool (ps[k]).live):=by
 obtain⟨b,off,c,e1,_,_,hb,_,hc⟩:=h.1.at (by omega);injection e1 with e1 e2 e3;subst e1;(have g:=fun(j:Nat) (hj:j<4) (u:Value) (hu:(prcells ps[k])[j]? = some u)=>(show W.cell? ⟨b,off+k*4+j,none⟩=some u by rw[Nat.add_assoc];exact hc _ u ((cellsP_at _ k hk j hj).trans hu)));exact⟨b,off,rfl,g 0 (by omega) _ rfl,g 1 (by omega) _ rfl,g 2 (by omega) _ rfl,g 3 (by omega) _ rfl⟩
theorem PsX.range {ap:Option Addr}{cap:Nat}(h:PsX ps (.slice ap ps.length cap) X W)(k:Nat)(hk:k<ps.length) : ∃b off,ap=some ⟨b,off,none⟩∧W.rangeAt b (off+k*4) (prcells ps[k]):=by
 obtain⟨b,off,e,c0,c1,c2,c3⟩:=h.proc k hk;refine⟨b,off,e,fun j v hv=> ?_⟩
 have hj:j<4:=by
  rcases Nat.lt_or_ge j 4 with h | h
  · exact h
  · rw[List.getElem?_eq_none (by exact h)]at hv;cases hv
 (have:j=0∨j=1∨j=2∨j=3:=by omega);rcases this with rfl | rfl | rfl | rfl<;>(injection hv with hv;subst hv;assumption)
theorem PsX.form {v:Value}(h:PsX ps v X W) : ∃ap cap,v = .slice ap ps.length cap:=RdX.form h
theorem DiskX.form {l:List NodeL}{v:Value}(h:DiskX l v X W) : ∃ao cap,v = .slice ao l.length cap:=gives_form h
end
abbrev kernV (vl:Value)(most room:Int)(vt vf vp:Value):Value:= .agg #[vl, .int .i64 most, .int .i64 room,vt,vf,vp]
abbrev callV (c:CallL):Value:= .agg #[.int .i64 c.kind, .int .i64 c.fd, .int .i64 c.fd2, .int .i64 c.n, .int .i64 c.mode, .int .i64 c.flags, .string (bs c.path), .string (bs c.path2), .string (bs c.data)]
abbrev replyV (r:ReplyL)(v:Value):Value:= .agg #[.int .i64 r.e, .int .i64 r.n, .string (bs r.s),v, .int .i64 r.i.ino, .int .i64 r.i.kind, .int .i64 r.i.mode, .int .i64 r.i.owner, .int .i64 r.i.links, .int .i64 r.i.size]
def LsX (ls:List Nm)(v:Value):Thing:=RdX 1 v ls.length (strs ls)
theorem LsX.firm (ls:List Nm)(v:Value):Firm (LsX ls v):=RdX.firm _ _ _ _
theorem LsX.none (X:Nat→Prop)(W:World):LsX [] (.slice none 0 0) X W:=RdX.none0 _ _ _
def DoIs (X:Nat→Prop)(R:DoL)(e:Ending)(w w':World):Prop :=
 ∃ao co ad cd af cf ap cp ar cr,e = .returned (.tuple #[kernV (.slice ao R.1.l.length co) R.1.most R.1.room (.slice ad R.1.t.ds.length cd) (.slice af R.1.t.fs.length cf) (.slice ap R.1.ps.length cp),replyV R.2 (.slice ar R.2.ls.length cr)])
  ∧ DiskX R.1.l (.slice ao R.1.l.length co) X w'∧TabX R.1.t (.slice ad R.1.t.ds.length cd) (.slice af R.1.t.fs.length cf) X w'∧PsX R.1.ps (.slice ap R.1.ps.length cp) X w'∧LsX R.2.ls (.slice ar R.2.ls.length cr) X w'∧Below w.heap.size w w'
end Go.Proofs.YtmiekcdkamgknaaGreatDoor
namespace Go.Proofs.YtmiekcdkamgknaaGreatDoor
def AsWas (m n:NodeL):Prop:=m.kind=n.kind∧m.opn=n.opn∧m.data=n.data
def LessO (l l':List NodeL):Prop:=∀j:Nat,((nd l j).kind=0→(nd l' j).kind=0)∧((nd l j).kind≠0→AsWas (nd l' j) (nd l j)∨((nd l j).opn≤0∧(nd l' j).kind=0))
def KeepO (l l':List NodeL):Prop:=∀j:Nat,((nd l j).kind=0→(nd l' j).kind≠0→(nd l' j).opn=0)∧((nd l j).kind≠0→AsWas (nd l' j) (nd l j)∨((nd l j).opn≤0∧(nd l' j).kind=0))
theorem AsWas.rfl' (n:NodeL):AsWas n n:=⟨rfl,rfl,rfl⟩
theorem LessO.rfl' (l:List NodeL):LessO l l:=fun _=>⟨id,fun _=> .inl (AsWas.rfl' _)⟩
theorem LessO.trans {a b c:List NodeL}(h1:LessO a b)(h2:LessO b c):LessO a c:=fun j=>by
 refine⟨fun h=>(h2 j).1 ((h1 j).1 h),fun h=> ?_⟩;rcases(h1 j).2 h with⟨a1,a2,a3⟩ | ⟨a1,a2⟩
 · rcases(h2 j).2 (by rw[a1];exact h)with⟨b1,b2,b3⟩ | ⟨b1,b2⟩
   · exact .inl ⟨b1.trans a1,b2.trans a2,b3.trans a3⟩
   · exact .inr ⟨by rw[←a2];exact b1,b2⟩
 · exact .inr ⟨a1,(h2 j).1 a2⟩
theorem LessO.keep {l l':List NodeL}(h:LessO l l'):KeepO l l':=fun j=>⟨fun h0 h1=>absurd ((h j).1 h0) h1,(h j).2⟩
theorem KeepO.rfl' (l:List NodeL):KeepO l l:=(LessO.rfl' l).keep
theorem KeepO.less {a b c:List NodeL}(h1:KeepO a b)(h2:LessO b c):KeepO a c:=fun j=>by
 refine⟨fun h0 hc=> ?_,fun h=> ?_⟩
 · by_cases hb:(nd b j).kind=0
   · exact absurd ((h2 j).1 hb) hc
   · rcases(h2 j).2 hb with⟨_,a2,_⟩ | ⟨_,a2⟩
     · rw[a2];exact(h1 j).1 h0 hb
     · exact absurd a2 hc
 · rcases(h1 j).2 h with⟨a1,a2,a3⟩ | ⟨a1,a2⟩
   · rcases(h2 j).2 (by rw[a1];exact h)with⟨b1,b2,b3⟩ | ⟨b1,b2⟩
     · exact .inl ⟨b1.trans a1,b2.trans a2,b3.trans a3⟩
     · exact .inr ⟨by rw[←a2];exact b1,b2⟩
   · exact .inr ⟨a1,(h2 j).1 a2⟩
theorem not_got {l:List NodeL}{j:Nat}(h:(nd l j).kind=0):nodeL l (j:Int)=zeroN:=by
 unfold nodeL;rw[if_neg];rw[got_nd];exact fun h2=>h2 h
theorem LessO.set (l:List NodeL)(i:Int){n:NodeL}(h:AsWas n (nodeL l i)):LessO l (setL l i n):=by
 unfold setL;split
 · rename_i hi
   obtain⟨k,rfl,hlt⟩:=in_nat hi;rw[Int.toNat_natCast];intro j;rw[nd_set hlt];by_cases e:j=k
   · subst e
     rw[if_pos rfl];by_cases h0:(nd l j).kind=0
     · rw[not_got h0]at h
       exact⟨fun _=>h.1,fun h2=>absurd h0 h2⟩
     · rw[nodeL_nd h0]at h
       exact⟨fun h2=>absurd h2 h0,fun _=> .inl h⟩
   · rw[if_neg e];exact LessO.rfl' l j
 · exact LessO.rfl' l
theorem LessO.settle (l:List NodeL)(i:Int):LessO l (settleL l i):=by
 unfold settleL;split
 · rename_i h
   obtain⟨hg,h0,hl,ho⟩:=h;obtain⟨k,rfl,hlt,hk⟩:=got_nat hg;rw[nodeL_nd hk]at ho;rw[setL_nat hlt];intro j;rw[nd_set hlt];by_cases e:j=k
   · subst e
     rw[if_pos rfl];exact⟨fun h=>absurd h hk,fun _=> .inr ⟨ho,rfl⟩⟩
   · rw[if_neg e];exact LessO.rfl' l j
 · exact LessO.rfl' l
theorem as_put (n:NodeL)(nm:Nm)(i:Int):AsWas (putN n nm i) n:=⟨rfl,rfl,rfl⟩
theorem less_named (l:List NodeL)(s:SpotL)(i:Int):LessO l (namedL l s i):=LessO.set l _ (as_put _ _ _)
theorem keep_enter {l:List NodeL}{most room who:Int}(hr:RightP l)(s:SpotL){n:NodeL}(hnm:n.names = [])(ho:n.opn=0):KeepO l (enterL l most room who s n).1:=by
 unfold enterL;split
 · exact KeepO.rfl' l
 · split
   · exact KeepO.rfl' l
   · rename_i hE
     have hE:addE l most room (ownN n who)=0:=Decidable.of_not_not hE;obtain⟨hR,h0⟩:=Rig.of hr;obtain⟨p,_,_,hp,hnd,_⟩:=add_nd hR h0 (n:=ownN n who) hnm hE;refine KeepO.less (fun j=> ?_) (less_named _ _ _);rw[hnd];by_cases e:j=p
     · subst e
       rw[if_pos rfl];exact⟨fun _ _=>ho,fun h=>absurd hp h⟩
     · rw[if_neg e]
       exact KeepO.rfl' l j
theorem keep_mkfile {l:List NodeL}{most room who fr:Int}(hr:RightP l)(path:Str)(mode:Int):KeepO l (mkfileL l most room who fr path mode).1:=by
 unfold mkfileL
 repeat (split;exact KeepO.rfl' l)
 exact keep_enter hr _ rfl rfl
theorem opensD_pos {ds:List DescL}{j:Int}:0<opensD ds j↔ ∃d∈ds,0<d.refs∧d.ino=j:=by
 unfold opensD;rw[List.countP_pos_iff];simp only[Bool.and_eq_true,decide_eq_true_iff]
theorem opensP_pos {ps:List ProcL}{j:Int}:0<opensP ps j↔ ∃x∈ps,x.live=true∧x.cwd=j:=by
 unfold opensP;rw[List.countP_pos_iff];simp only[Bool.and_eq_true,decide_eq_true_iff]
theorem RigK.rightP {k:KernL}(h:RigK k):RightP k.l:=⟨k.most,k.room,h.disk⟩
theorem RigK.none {k:KernL}(h:RigK k){j:Nat}(h0:(nd k.l j).kind=0):opensN k j=0:=by
 unfold opensN
 have h1:opensD k.t.ds (j:Int)=0:=by
  rcases Nat.eq_zero_or_pos (opensD k.t.ds (j:Int))with e | e
  · exact e
  · obtain⟨d,hd,hr,hj⟩:=opensD_pos.1 e
    have:=h.ino d hd hr;rw[hj,got_nd]at this;exact absurd h0 this
 have h2:opensP k.ps (j:Int)=0:=by
  rcases Nat.eq_zero_or_pos (opensP k.ps (j:Int))with e | e
  · exact e
  · obtain⟨x,hx,hl,hj⟩:=opensP_pos.1 e
    obtain⟨p,hp,rfl⟩:=List.mem_iff_getElem.1 hx;obtain⟨e1,e2⟩:=live_at hp;have:=(h.cwd p (by rw[e1];exact hl)).1;rw[e2,hj,not_got h0]at this
    cases this
 rw[h1,h2]
theorem RigK.open_kept {k:KernL}(h:RigK k){l':List NodeL}(hk:KeepO k.l l'){j:Nat}(h0:(nd k.l j).kind≠0)(ho:0<opensN k j):AsWas (nd l' j) (nd k.l j):=by
 rcases(hk j).2 h0 with h1 | ⟨h1,_⟩
 · exact h1
 · have:=h.opn j h0
   omega
theorem RigK.desc_open {k:KernL}(h:RigK k){d:DescL}(hd:d∈k.t.ds)(hr:0<d.refs) : ∃j:Nat,d.ino=j∧(nd k.l j).kind≠0∧0<opensN k j:=by
 obtain⟨j,hj,_,hk⟩:=got_nat (h.ino d hd hr);refine⟨j,hj,hk,?_⟩;have:=opensD_pos.2 ⟨d,hd,hr,hj⟩;unfold opensN;omega
theorem RigK.cwd_open {k:KernL}(h:RigK k){p:Int}(hl:liveB k.ps p=true) : ∃j:Nat,(procL k.ps p).cwd=j∧(nd k.l j).kind=2∧0<opensN k j:=by
 obtain⟨a,ha,rfl,e,h1⟩:=live_in hl;obtain⟨h2,_⟩:=h.cwd a hl
 have hg:gotB k.l (procL k.ps (a:Int)).cwd=true:=by
  rcases hb:gotB k.l (procL k.ps (a:Int)).cwd with _ | _
  · unfold nodeL at h2
    rw[hb]at h2
    cases h2
  · rfl
 obtain⟨j,hj,_,hk⟩:=got_nat hg;rw[hj,nodeL_nd hk]at h2;refine⟨j,hj,h2,?_⟩;have:=opensP_pos.2 ⟨k.ps[a],List.getElem_mem ha,h1,show(k.ps[a]).cwd=(j:Int)by rw[←e];exact hj⟩;unfold opensN;omega
theorem right_keep {k:KernL}(h:RigK k){l':List NodeL}(hr:rightR l' k.most k.room=true)(hk:KeepO k.l l'):RigK (withD k l'):=by
 refine⟨hr,h.tab,h.eight,h.procs,h.idle,fun p hl=> ?_,fun d hd hd0=> ?_,fun j hj=> ?_⟩
 · obtain⟨j,hj,h2,ho⟩:=h.cwd_open hl
   have h3:=h.open_kept hk (by rw[h2];decide) ho;have hj':(procL (withD k l').ps p).cwd=j:=hj;refine⟨?_,(h.cwd p hl).2⟩;show(nodeL l' (procL (withD k l').ps p).cwd).kind=2;rw[hj',nodeL_nd (by rw[h3.1,h2];decide),h3.1,h2]
 · obtain⟨j,hj,h2,ho⟩:=h.desc_open hd hd0
   have h3:=h.open_kept hk h2 ho;show gotB l' d.ino=true;rw[hj,got_nd,h3.1];exact h2
 · show(nd l' j).opn=((opensN k j:Nat):Int)
   by_cases h0:(nd k.l j).kind=0
   · rw[(hk j).1 h0 hj,h.none h0]
     rfl
   · rcases(hk j).2 h0 with⟨_,a2,_⟩ | ⟨_,a2⟩
     · rw[a2,h.opn j h0]
     · exact absurd a2 hj
end Go.Proofs.YtmiekcdkamgknaaGreatDoor
namespace Go.Proofs.YtmiekcdkamgknaaGreatDoor
theorem tune_rig {l:List NodeL}(h:Rig l){i:Nat}(hik:(nd l i).kind≠0){n:NodeL}(hk:n.kind=(nd l i).kind)(hu:n.up=(nd l i).up)(hl:n.links=(nd l i).links)(hn:n.names=(nd l i).names)(hloc:LocOk n)(ho:i≠0→cnt l i=0→1≤n.opn):Rig (l.set i n):=by
 have hlti:i<l.length:=nd_kind hik;have hnd:=nd_set hlti n
 have hcs : ∀j:Int,cnt (l.set i n) j=cnt l j:=fun j=>by
  have:=cnt_set hlti n j;rw[hn]at this;omega
 have hkin:=nd_map_set hlti n hk hu;generalize l.set i n=l1 at *
 have hsame : ∀j,(nd l1 j).names=(nd l j).names∧(nd l1 j).links=(nd l j).links:=fun j=>by
  rw[hnd];split
  · rename_i e;subst e;exact⟨hn,hl⟩
  · exact⟨rfl,rfl⟩
 refine⟨⟨(hkin 0).1.trans h.root.1,(hkin 0).2.trans h.root.2.1,(hsame 0).2.trans h.root.2.2⟩,fun j hj=> ?_,fun j hj=> ?_,fun j e he=> ?_,fun j hj0 _ hjk=> ?_⟩
 · rw[(hkin j).1]at hj
   rw[hnd,if_neg (by rintro rfl;exact hik hj)];exact h.zero j hj
 · rw[(hkin j).1]at hj
   rw[hnd];split
   · exact hloc
   · exact h.loc j hj
 · rw[(hsame j).1]at he
   obtain⟨k,a,b,c⟩:=h.nam j e he;exact⟨k,a,b,by rw[(hkin k).1];exact c⟩
 · rw[(hkin j).1]at hjk
   (have hN:=(h.nmd j hj0 (fun h=>h) hjk).same (hcs j) (fun _ u hu=>by rw[(hsame u).1];exact hu) fun _ hr=>hr.kin hkin);obtain⟨a,b,c⟩:=hN;refine⟨(hsame j).2.trans a,fun hz=> ?_,fun h2=> ?_⟩
   · rw[hnd]
     split
     · rename_i e
       subst e;exact ho hj0 (by rw[←hcs];exact hz)
     · exact b hz
   · rw[(hkin j).1]at h2
     obtain⟨c1,c2⟩:=c h2;refine⟨fun hz=> ?_,fun hz=> ?_⟩
     · rw[(hsame j).1,(hkin j).2];exact c1 hz
     · rw[(hkin j).2];exact c2 hz
theorem loc_opn {n:NodeL}(h:LocOk n)(b:Int)(hb:0≤n.opn+b):LocOk (opnN n b):=by
 obtain⟨a,b',c,d⟩:=h;unfold plainB at a;simp only[Bool.and_eq_true,decide_eq_true_iff]at a;refine⟨?_,b',c,d⟩;unfold plainB;simp only[Bool.and_eq_true,decide_eq_true_iff];exact⟨a.1,hb⟩
theorem loc_data {n:NodeL}(h:LocOk n)(h1:n.kind=1)(d:Nm):LocOk (dataN n d):=by
 obtain⟨a,b,c,e⟩:=h;exact⟨a,b,fun h2=>absurd (h1.symm.trans h2) (by decide),e⟩
def atN (i:Nat)(n:NodeL)(b:Int):NodeL:=if i≠0∧n.links≤0∧n.opn+b≤0 then zeroN else opnN n b
theorem opened_eq {l:List NodeL}{i:Nat}(hik:(nd l i).kind≠0)(b:Int):openedL l (i:Int) b=l.set i (atN i (nd l i) b):=by
 have hlt:i<l.length:=nd_kind hik;unfold openedL settleL;rw[nodeL_nd hik,setL_nat hlt];(have hnd:nd (l.set i (opnN (nd l i) b)) i=opnN (nd l i) b:=by rw[nd_set hlt,if_pos rfl]);(have hk:(nd (l.set i (opnN (nd l i) b)) i).kind≠0:=by rw[hnd];exact hik);rw[nodeL_nd hk,hnd,(got_nd _ i).2 hk];unfold atN;by_cases h0:i≠0∧(nd l i).links≤0∧(nd l i).opn+b≤0
 · rw[if_pos h0,if_pos ⟨rfl,by omega,h0.2.1,h0.2.2⟩,setL_nat (by rw[List.length_set];exact hlt),List.set_set]
 · rw[if_neg h0,if_neg fun⟨_,h1,h2,h3⟩=>h0 ⟨by omega,h2,h3⟩]
theorem opened_nd {l:List NodeL}{i:Nat}(hik:(nd l i).kind≠0)(b:Int)(j:Nat):nd (openedL l (i:Int) b) j=if j=i then atN i (nd l i) b else nd l j:=by
 rw[opened_eq hik,nd_set (nd_kind hik)]
theorem opened_len {l:List NodeL}{i:Nat}(hik:(nd l i).kind≠0)(b:Int):(openedL l (i:Int) b).length=l.length:=by rw[opened_eq hik,List.length_set]
theorem Rig.links {l:List NodeL}(h:Rig l){i:Nat}(hi0:i≠0)(hik:(nd l i).kind≠0):(nd l i).links=cnt l i∧(cnt l i=0→1≤(nd l i).opn):=by
 obtain⟨a,b,_⟩:=h.nmd i hi0 (fun h=>h) hik;exact⟨a,b⟩
theorem free_rig {l:List NodeL}(h:Rig l){i:Nat}(hi0:i≠0)(hik:(nd l i).kind≠0)(hc:cnt l i=0):Rig (l.set i zeroN):=by
 have hlt:i<l.length:=nd_kind hik
 have hnm:(nd l i).names = []:=by
  by_cases h2:(nd l i).kind=2
  · exact((h.nmd i hi0 (fun h=>h) hik).2.2 h2).1 hc |>.1
  · exact(h.loc i hik).2.1 h2
 have hz : ∀k,cntN (nd l k).names i=0:=fun k=>by have:=cnt_ge (l:=l) k i;omega
 have hup : ∀k:Nat,k≠0→(nd l k).kind=2→(nd l k).up≠(i:Int):=fun k hk0 hk2 e=>by
  obtain⟨c1,c2⟩:=(h.nmd k hk0 (fun h=>h) (by rw[hk2];decide)).2.2 hk2;by_cases hck:cnt l k=0
  · have:=(c1 hck).2
    omega
  · obtain⟨_,⟨u,hu,hpos⟩,_⟩:=c2 hck
    rw[e]at hu;(have:u=i:=by omega);subst this;rw[hnm]at hpos;exact absurd hpos (Nat.lt_irrefl 0)
 have hR : ∀k:Nat,k≠i→Rooted l k→Rooted (l.set i zeroN) k:=fun k hki hr=>by
  refine Rooted.mono (fun k=>k≠i) (fun k hk h2=> ?_) hr (fun j hj _=>by omega);rw[nd_set hlt,if_neg hk];refine⟨h2,rfl,fun u hu _ e=> ?_⟩;subst e;by_cases hk0:k=0
  · subst hk0
    have:=h.root.2.1;omega
  · exact hup k hk0 h2 hu
 have h1:=(Rig.all h (fun k=>k=i)).node (y:=i) rfl hi0 hlt zeroN hnm.symm (fun hne=>absurd rfl hne) (fun _=>rfl) (fun _=>hz) (fun k _ hE _ hr=>hR k hE hr);(refine h1.less fun k hE=> .inr fun _ hne=> ?_);rw[hE,nd_set hlt,if_pos rfl]at hne;exact absurd rfl hne
theorem opened_rig {l:List NodeL}(h:Rig l){i:Nat}(hik:(nd l i).kind≠0){b:Int}(hb:0≤(nd l i).opn+b):Rig (openedL l (i:Int) b)∧bytesL (openedL l (i:Int) b)≤bytesL l:=by
 have hlt:i<l.length:=nd_kind hik;rw[opened_eq hik];have hbs:=bytes_set hlt (atN i (nd l i) b)
 have hw:weightL (atN i (nd l i) b)≤weightL (nd l i):=by
  unfold atN;split
  · exact Nat.zero_le _
  · exact Nat.le_refl _
 refine⟨?_,by omega⟩;unfold atN;split
 · rename_i hc
   obtain⟨hi0,hlk,_⟩:=hc;have:=(h.links hi0 hik).1;exact free_rig h hi0 hik (by omega)
 · rename_i hc
   (refine tune_rig h hik rfl rfl rfl rfl (loc_opn (h.loc i hik) b hb) fun hi0 hc0=> ?_);have:=(h.links hi0 hik).1;show 1≤(nd l i).opn+b;rcases Int.lt_or_le 0 ((nd l i).opn+b)with h1 | h1
   · omega
   · exact absurd ⟨hi0,by omega,h1⟩ hc
theorem opened_right {l:List NodeL}{most room:Int}(h:rightR l most room=true){i:Nat}(hik:(nd l i).kind≠0){b:Int}(hb:0≤(nd l i).opn+b):rightR (openedL l (i:Int) b) most room=true:=by
 obtain⟨hR,_⟩:=Rig.of (right_RP h);obtain⟨h1,h2⟩:=opened_rig hR hik hb;exact right_back h h1 (opened_len hik b) h2
theorem data_rig {l:List NodeL}{most room:Int}(h:rightR l most room=true){i:Nat}(h1:(nd l i).kind=1){d:Nm}(hd:(bytesL l:Int)+d.length-(nd l i).data.length≤room):rightR (l.set i (dataN (nd l i) d)) most room=true:=by
 (have hik:(nd l i).kind≠0:=by rw[h1];decide);obtain⟨hR,h0,hl,hb⟩:=(right_iff l most room).1 h;have hlt:i<l.length:=nd_kind hik;refine(right_iff _ _ _).2 ⟨tune_rig hR hik rfl rfl rfl rfl (loc_data (hR.loc i hik) h1 d) fun hi0 hc=>(hR.links hi0 hik).2 hc,by rw[List.length_set];exact h0,by rw[List.length_set];exact hl,?_⟩;have hbs:=bytes_set hlt (dataN (nd l i) d);(have w1:weightL (dataN (nd l i) d)=d.length:=by unfold weightL;rw[if_pos (Or.inl (show(dataN (nd l i) d).kind=1 from h1))];rfl);(have w2:weightL (nd l i)=(nd l i).data.length:=by unfold weightL;rw[if_pos (Or.inl h1)]);omega
theorem getL_nodeL (l:List NodeL)(i:Int):getL l i=nodeL l i:=by unfold getL nodeL;cases gotB l i<;>rfl
theorem kept_right {l:List NodeL}{most room i:Int}(h:rightR l most room=true)(hf:fileE l i=0)(d:Nm):rightR (keptL l room i d).1 most room=true:=by
 unfold keptL;split
 · exact h
 · rename_i hc
   obtain⟨hg,hk⟩:=file_got hf;obtain⟨j,rfl,hlt,hjk⟩:=got_nat hg;rw[getL_nodeL,nodeL_nd hjk]at hk hc ⊢;rw[setL_nat hlt];refine data_rig h hk ?_;obtain⟨_,_,_,hb⟩:=(right_iff l most room).1 h;omega
theorem cut_right {l:List NodeL}{most room:Int}(h:rightR l most room=true)(i n:Int):rightR (cutL l room i n).1 most room=true:=by
 unfold cutL;split
 · exact h
 · rename_i hf
   split
   · exact h
   · split
     · exact kept_right h (Decidable.of_not_not hf) _
     · split
       · exact h
       · exact kept_right h (Decidable.of_not_not hf) _
def DataO (l l':List NodeL):Prop:=l'=l∨∃(i:Nat) (d:Nm),(nd l i).kind=1∧l'=l.set i (dataN (nd l i) d)
theorem kept_O {l:List NodeL}{room i:Int}(hf:fileE l i=0)(d:Nm):DataO l (keptL l room i d).1:=by
 unfold keptL;split
 · exact .inl rfl
 · obtain⟨hg,hk⟩:=file_got hf
   obtain⟨j,rfl,hlt,hjk⟩:=got_nat hg;rw[getL_nodeL,nodeL_nd hjk]at hk ⊢;rw[setL_nat hlt];exact .inr ⟨j,d,hk,rfl⟩
theorem cut_O (l:List NodeL)(room i n:Int):DataO l (cutL l room i n).1:=by
 unfold cutL;split
 · exact .inl rfl
 · rename_i hf
   split
   · exact .inl rfl
   · split
     · exact kept_O (Decidable.of_not_not hf) _
     · split
       · exact .inl rfl
       · exact kept_O (Decidable.of_not_not hf) _
theorem DataO.nd {l l':List NodeL}(h:DataO l l')(j:Nat):(nd l' j).kind=(nd l j).kind∧(nd l' j).opn=(nd l j).opn∧(nd l' j).links=(nd l j).links∧(nd l' j).names=(nd l j).names∧(nd l' j).up=(nd l j).up∧(nd l' j).mode=(nd l j).mode∧(nd l' j).owner=(nd l j).owner∧((nd l j).kind≠1→(nd l' j).data=(nd l j).data):=by
 rcases h with rfl | ⟨i,d,hk,rfl⟩
 · exact⟨rfl,rfl,rfl,rfl,rfl,rfl,rfl,fun _=>rfl⟩
 · rw[nd_set (nd_kind (by rw[hk];decide))]
   split
   · rename_i e;subst e;exact⟨rfl,rfl,rfl,rfl,rfl,rfl,rfl,fun h=>absurd hk h⟩
   · exact⟨rfl,rfl,rfl,rfl,rfl,rfl,rfl,fun _=>rfl⟩
theorem DataO.len {l l':List NodeL}(h:DataO l l'):l'.length=l.length:=by
 rcases h with rfl | ⟨i,d,hk,rfl⟩
 · rfl
 · rw[List.length_set]
end Go.Proofs.YtmiekcdkamgknaaGreatDoor
