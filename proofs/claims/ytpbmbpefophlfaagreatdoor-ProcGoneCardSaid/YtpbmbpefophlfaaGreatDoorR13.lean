import Derived.Test.YtpbmbpefophlfaaGreatDoorR12
import Derived.Test.YtpbmbpefophlfaaGreatDoorR11
namespace Go.Proofs.YtpbmbpefophlfaaGreatDoor
def settleL (l:List NodeL)(i:Int):List NodeL:=if gotB l i=true∧i≠0∧(nodeL l i).links≤0∧(nodeL l i).opn≤0 then setL l i zeroN else l
def writesL (l:List NodeL)(who d:Int):Bool:=mayB (nodeL l d).mode (nodeL l d).owner who 2
def putN (n:NodeL)(nm:Nm)(i:Int):NodeL:= { n with names:=putL n.names (nm,i)}
def dropN (n:NodeL)(nm:Nm):NodeL:= { n with names:=dropL n.names nm}
def namedL (l:List NodeL)(s:SpotL)(i:Int):List NodeL:=setL l s.dir (putN (nodeL l s.dir) s.name i)
def droppedL (l:List NodeL)(s:SpotL):List NodeL:=setL l s.dir (dropN (nodeL l s.dir) s.name)
def freeE (l:List NodeL)(who:Int)(s:SpotL):Int:=if 0≤s.ino then 3 else if(nodeL l s.dir).links<1 then 2 else if writesL l who s.dir=false then 7 else 0
abbrev ChgL:=List NodeL × Int
abbrev MakL:=List NodeL × Int × Int
def ownN (n:NodeL)(who:Int):NodeL:= { n with links:=1,owner:=who}
def enterL (l:List NodeL)(most room who:Int)(s:SpotL)(n:NodeL):MakL :=
 if freeE l who s≠0 then(l,0,freeE l who s)
 else if addE l most room (ownN n who)≠0 then(l,0,addE l most room (ownN n who))
 else(namedL (addL l most room (ownN n who)) s (addI l most room (ownN n who)),addI l most room (ownN n who),0)
def fileN (mode:Int):NodeL:=⟨1,mode % 64,0,0,0,0,[],[]⟩
def dirN (mode up:Int):NodeL:=⟨2,mode % 64,0,0,0,up,[],[]⟩
def linkN (text:Nm):NodeL:=⟨3,63,0,0,0,0,text,[]⟩
def mkfileL (l:List NodeL)(most room who fr:Int)(path:Str)(mode:Int):MakL :=
 if(walkL l who fr path false).2≠0 then(l,0,(walkL l who fr path false).2)
 else if(walkL l who fr path false).1.slash=true∧(walkL l who fr path false).1.ino<0 then(l,0,5)
 else enterL l most room who (walkL l who fr path false).1 (fileN mode)
def mkdirL (l:List NodeL)(most room who fr:Int)(path:Str)(mode:Int):ChgL :=
 if(walkL l who fr path false).2≠0 then(l,(walkL l who fr path false).2)
 else((enterL l most room who (walkL l who fr path false).1 (dirN mode (walkL l who fr path false).1.dir)).1,(enterL l most room who (walkL l who fr path false).1 (dirN mode (walkL l who fr path false).1.dir)).2.2)
def symlinkL (l:List NodeL)(most room who fr:Int)(text path:Str):ChgL :=
 if text = []then(l,2)else if 100<text.length then(l,9)
 else if(walkL l who fr path false).2≠0 then(l,(walkL l who fr path false).2)
 else if(walkL l who fr path false).1.slash=true∧(walkL l who fr path false).1.ino<0 then(l,4)
 else((enterL l most room who (walkL l who fr path false).1 (linkN text)).1,(enterL l most room who (walkL l who fr path false).1 (linkN text)).2.2)
def moreN (n:NodeL):NodeL:= { n with links:=n.links+1}
def spotE (l:List NodeL)(who:Int)(R:ResL):Int:=if R.2≠0 then R.2 else freeE l who R.1
def linkL (l:List NodeL)(who fr:Int)(old path:Str):ChgL :=
 if(wnodeL (walkL l who fr old false)).2≠0 then(l,(wnodeL (walkL l who fr old false)).2)
 else if(nodeL l (wnodeL (walkL l who fr old false)).1).kind=2 then(l,5)
 else if 20≤(nodeL l (wnodeL (walkL l who fr old false)).1).links then(l,11)
 else if spotE l who (walkL l who fr path false)≠0 then(l,spotE l who (walkL l who fr path false))
 else if(walkL l who fr path false).1.slash=true then(l,4)
 else(namedL (setL l (wnodeL (walkL l who fr old false)).1 (moreN (nodeL l (wnodeL (walkL l who fr old false)).1))) (walkL l who fr path false).1 (wnodeL (walkL l who fr old false)).1,0)
def lessN (n:NodeL):NodeL:= { n with links:=n.links-1,up:=if n.kind=2 then 0 else n.up}
def lostL (l:List NodeL)(s:SpotL):List NodeL:=settleL (setL (droppedL l s) s.ino (lessN (nodeL (droppedL l s) s.ino))) s.ino
def thereE (R:ResL):Int:=if R.2≠0 then R.2 else if R.1.ino<0 then 2 else 0
def unlinkL (l:List NodeL)(who fr:Int)(path:Str):ChgL :=
 if thereE (walkL l who fr path false)≠0 then(l,thereE (walkL l who fr path false))
 else if(nodeL l (walkL l who fr path false).1.ino).kind=2 then(l,5)
 else if writesL l who (walkL l who fr path false).1.dir=false then(l,7)
 else(lostL l (walkL l who fr path false).1,0)
def rmdirE (l:List NodeL)(who:Int)(s:SpotL):Int :=
 if(nodeL l s.ino).kind≠2 then 4 else if s.name = []∨s.name = [46]then 1 else if s.name = [46,46]then 6
 else if writesL l who s.dir=false then 7 else if(nodeL l s.ino).names≠ []then 6 else 0
def rmdirL (l:List NodeL)(who fr:Int)(path:Str):ChgL :=
 if thereE (walkL l who fr path false)≠0 then(l,thereE (walkL l who fr path false))
 else if rmdirE l who (walkL l who fr path false).1≠0 then(l,rmdirE l who (walkL l who fr path false).1)
 else(lostL l (walkL l who fr path false).1,0)
def beneathL (l:List NodeL):Nat→Int→Int→Bool
 | 0,_,_=>false
 | f+1,i,top=>if i=top then true else if i=0 then false else beneathL l f (nodeL l i).up top
def dotsB (nm:Nm):Bool:=decide (nm = []) || decide (nm = [46]) || decide (nm = [46,46])
def overE (l:List NodeL)(s t:SpotL):Int :=
 if(nodeL l t.dir).links<1 then 2
 else if(nodeL l s.ino).kind=2 then
  if beneathL l (l.length+1) t.dir s.ino=true then 15
  else if gotB l t.ino=true∧(nodeL l t.ino).kind≠2 then 4
  else if gotB l t.ino=true∧(nodeL l t.ino).names≠ []then 6
  else 0
 else if gotB l t.ino=true∧(nodeL l t.ino).kind=2 then 5
 else if t.slash=true then 4 else 0
def placeN (n:NodeL)(d:Int):NodeL:= { n with up:=if n.kind=2 then d else n.up}
def movedL (l:List NodeL)(s t:SpotL):List NodeL:=if 0≤t.ino then lostL (droppedL l s) t else droppedL l s
def moveL (l:List NodeL)(s t:SpotL):List NodeL :=
 setL (namedL (movedL l s t) t s.ino) s.ino (placeN (nodeL (namedL (movedL l s t) t s.ino) s.ino) t.dir)
def renameE (l:List NodeL)(who1 who2:Int)(s t:SpotL):Int :=
 if dotsB s.name=true∨dotsB t.name=true then 1
 else if writesL l who1 s.dir=false∨writesL l who2 t.dir=false then 7
 else if s.ino=t.ino then -1 else overE l s t
def renameL (l:List NodeL)(who1 fr1 who2 fr2:Int)(old path:Str):ChgL :=
 if thereE (walkL l who1 fr1 old false)≠0 then(l,thereE (walkL l who1 fr1 old false))
 else if(walkL l who2 fr2 path false).2≠0 then(l,(walkL l who2 fr2 path false).2)
 else if renameE l who1 who2 (walkL l who1 fr1 old false).1 (walkL l who2 fr2 path false).1 = -1 then(l,0)
 else if renameE l who1 who2 (walkL l who1 fr1 old false).1 (walkL l who2 fr2 path false).1≠0 then(l,renameE l who1 who2 (walkL l who1 fr1 old false).1 (walkL l who2 fr2 path false).1)
 else(moveL l (walkL l who1 fr1 old false).1 (walkL l who2 fr2 path false).1,0)
def modeN (n:NodeL)(mode:Int):NodeL:= { n with mode:=mode % 64}
def chmodL (l:List NodeL)(who fr:Int)(path:Str)(mode:Int):ChgL :=
 if(wnodeL (walkL l who fr path true)).2≠0 then(l,(wnodeL (walkL l who fr path true)).2)
 else if who≠0∧who≠(nodeL l (wnodeL (walkL l who fr path true)).1).owner then(l,7)
 else(setL l (wnodeL (walkL l who fr path true)).1 (modeN (nodeL l (wnodeL (walkL l who fr path true)).1) mode),0)
end Go.Proofs.YtpbmbpefophlfaaGreatDoor
namespace Go.Proofs.YtpbmbpefophlfaaGreatDoor
theorem Rig.of {l:List NodeL}(h:RightP l):Rig l∧0<l.length:=by
 obtain⟨most,room,h⟩:=h;obtain⟨a,b,_⟩:=(right_iff l most room).1 h;exact⟨a,b⟩
theorem setL_nat {l:List NodeL}{k:Nat}(h:k<l.length)(n:NodeL):setL l (k:Int) n=l.set k n:=by
 unfold setL;rw[if_pos (nat_in h),Int.toNat_natCast]
end Go.Proofs.YtpbmbpefophlfaaGreatDoor
namespace Go.Proofs.YtpbmbpefophlfaaGreatDoor
theorem nd_map_set {l:List NodeL}{k:Nat}(h:k<l.length)(n:NodeL)(h1:n.kind=(nd l k).kind)(h2:n.up=(nd l k).up)(j:Nat):(nd (l.set k n) j).kind=(nd l j).kind∧(nd (l.set k n) j).up=(nd l j).up:=by
 rw[nd_set h];split
 · rename_i e;subst e;exact⟨h1,h2⟩
 · exact⟨rfl,rfl⟩
theorem Rooted.kin {l l':List NodeL}(h : ∀j,(nd l' j).kind=(nd l j).kind∧(nd l' j).up=(nd l j).up){j:Int}(hr:Rooted l j):Rooted l' j :=
 hr.mono (fun _=>True) (fun k _ hk=>⟨(h k).1.trans hk,(h k).2,fun _ _ _=>trivial⟩) fun _ _ _=>trivial
theorem Rig.sorted {l:List NodeL}{E:Nat→Prop}(h:RigE l E)(k:Nat):SortedP (nd l k).names:=by
 by_cases hk:(nd l k).kind=0
 · rw[h.zero k hk];exact sorted_nil
 · exact(h.loc k hk).2.2.2
end Go.Proofs.YtpbmbpefophlfaaGreatDoor
namespace Go.Proofs.YtpbmbpefophlfaaGreatDoor
theorem bytes_set {l:List NodeL}{j:Nat}(h:j<l.length)(m:NodeL):bytesL (l.set j m)+weightL (nd l j)=bytesL l+weightL m:=by
 rw[nd_lt h]
 induction l generalizing j with
 | nil=>simp at h
 | cons a l ih =>
    cases j with
    | zero=>simp[bytesL];omega
    | succ j =>
       have:=ih (j:=j) (by simpa using h);simp only[bytesL,List.set_cons_succ,List.map_cons,List.sum_cons,List.getElem_cons_succ]at this ⊢;omega
theorem Rig.all {l:List NodeL}(h:Rig l)(E:Nat→Prop):RigE l E:=h.less fun _ h=>absurd h id
end Go.Proofs.YtpbmbpefophlfaaGreatDoor
namespace Go.Proofs.YtpbmbpefophlfaaGreatDoor
theorem right_RP {l:List NodeL}{most room:Int}(h:rightR l most room=true):RightP l:=⟨most,room,h⟩
theorem right_back {l l':List NodeL}{most room:Int}(h:rightR l most room=true)(hr:Rig l')(hl:l'.length=l.length)(hb:bytesL l'≤bytesL l):rightR l' most room=true:=by
 obtain⟨_,h1,h2,h3⟩:=(right_iff l most room).1 h;exact(right_iff l' most room).2 ⟨hr,by omega,by omega,by omega⟩
end Go.Proofs.YtpbmbpefophlfaaGreatDoor
namespace Go.Proofs.YtpbmbpefophlfaaGreatDoor
open Go.RowKit Go.Shelf
abbrev NodeM:=NodeL × Value
abbrev nval (n:NodeL)(v:Value):Value:= .agg #[.int .i64 n.kind, .int .i64 n.mode, .int .i64 n.owner, .int .i64 n.links, .int .i64 n.opn, .int .i64 n.up, .string (bs n.data),v]
def ncells (m:NodeM):List Value:= [.int .i64 m.1.kind, .int .i64 m.1.mode, .int .i64 m.1.owner, .int .i64 m.1.links, .int .i64 m.1.opn, .int .i64 m.1.up, .string (bs m.1.data),m.2]
def cellsN (ms:List NodeM):List Value:=ms.flatMap ncells
theorem cellsN_len (ms:List NodeM):(cellsN ms).length=ms.length*8:=by
 induction ms with
 | nil=>rfl
 | cons m ms ih =>
    (have:cellsN (m::ms)=ncells m++cellsN ms:=by simp[cellsN]);rw[this,List.length_append,ih,List.length_cons];show 8+_=_;omega
theorem cellsN_app (a b:List NodeM):cellsN (a++b)=cellsN a++cellsN b:=by simp[cellsN]
theorem cellsN_at (ms:List NodeM)(k:Nat)(h:k<ms.length)(j:Nat)(hj:j<8):(cellsN ms)[k*8+j]? = (ncells ms[k])[j]?:= by
 induction ms generalizing k with
 | nil=>simp at h
 | cons m ms ih =>
    (have e:cellsN (m::ms)=ncells m++cellsN ms:=by simp[cellsN]);have l8:(ncells m).length=8:=rfl;rw[e]
    cases k with
    | zero =>
       rw[List.getElem?_append_left (by omega)];simp
    | succ k =>
       rw[List.getElem?_append_right (by omega),l8,show(k+1)*8+j-8=k*8+j by omega];exact ih k (by simpa using h)
theorem cellsN_set (ms:List NodeM)(k:Nat)(h:k<ms.length)(m:NodeM)(j:Nat):(cellsN (ms.set k m))[j]? = if k*8≤j∧j<k*8+8 then(ncells m)[j-k*8]? else(cellsN ms)[j]?:= by
 rcases Nat.lt_or_ge j (ms.length*8)with hj | hj
 · obtain⟨q,r,rfl,hr⟩ : ∃q r,j=q*8+r∧r<8:=⟨j / 8,j % 8,by omega,by omega⟩
   (have hq:q<ms.length:=by omega);rw[cellsN_at _ q (by simpa using hq) r hr];by_cases e:q=k
   · subst e
     rw[if_pos (by omega),show q*8+r-q*8=r by omega,List.getElem_set_self]
   · rw[if_neg (by omega),cellsN_at ms q hq r hr,List.getElem_set_ne (Ne.symm e)]
 · rw[List.getElem?_eq_none (by rw[cellsN_len,List.length_set];exact hj),if_neg (by omega),List.getElem?_eq_none (by rw[cellsN_len];exact hj)]
def OneM (ms:List NodeM):Prop:=∀m∈ms,m.2.oneCell'=true
theorem cellsN_one {ms:List NodeM}(h:OneM ms) : ∀u∈cellsN ms,u.oneCell'=true:=by
 intro u hu;obtain⟨m,hm,hu⟩:=List.mem_flatMap.1 hu;simp only[ncells,List.mem_cons,List.not_mem_nil,or_false]at hu;rcases hu with rfl | rfl | rfl | rfl | rfl | rfl | rfl | rfl
 all_goals first | rfl | exact h m hm
theorem own_one {W:World}{base:Nat}{e:TypeId}{size n:Nat}{v:Value}{xs:List Value}(h:W.ownsRow base e size v n xs):v.oneCell'=true:=by
 obtain⟨ao,cap,rfl⟩:=own_form h;rfl
theorem ncells_one {W:World}{base:Nat}{e:TypeId}{size k:Nat}{n:NodeL}{v:Value}{xs:List Value}(h:W.ownsRow base e size v k xs) : ∀u∈ncells (n,v),u.oneCell'=true:=by
 intro u hu;simp only[ncells,List.mem_cons,List.not_mem_nil,or_false]at hu;rcases hu with rfl | rfl | rfl | rfl | rfl | rfl | rfl | rfl
 all_goals first | rfl | exact own_one h
def RdNm (B:Nat)(m:NodeM)(W:World):Prop:=Rd B 2 m.2 m.1.names.length (ents m.1.names) W
def RdM (B:Nat)(v:Value)(ms:List NodeM)(W:World):Prop:=Rd B 8 v ms.length (cellsN ms) W∧∀m∈ms,RdNm B m W
theorem RdM.below {B:Nat}{v:Value}{ms:List NodeM}{W W':World}(h:RdM B v ms W)(hb:Below B W W'):RdM B v ms W':=⟨h.1.below hb,fun m hm=>Rd.below (h.2 m hm) hb⟩
theorem RdM.mono {B B':Nat}{v:Value}{ms:List NodeM}{W:World}(h:RdM B v ms W)(hb:B≤B'):RdM B' v ms W:=⟨h.1.mono hb,fun m hm=>Rd.mono (h.2 m hm) hb⟩
theorem ret_tr {w w1 w2:World}(h1:Below w.heap.size w w1)(h2:Below w1.heap.size w1 w2):Below w.heap.size w w2:=h1.trans (h2.mono h1.size)
theorem rd_keep {size n:Nat}{v:Value}{xs:List Value}{W W':World}(h:Rd W.heap.size size v n xs W)(hb:Below W.heap.size W W'):Rd W'.heap.size size v n xs W':=(h.below hb).mono hb.size
theorem rdm_keep {v:Value}{ms:List NodeM}{W W':World}(h:RdM W.heap.size v ms W)(hb:Below W.heap.size W W'):RdM W'.heap.size v ms W':=(h.below hb).mono hb.size
theorem rdnm_keep {m:NodeM}{W W':World}(h:RdNm W.heap.size m W)(hb:Below W.heap.size W W'):RdNm W'.heap.size m W':=(Rd.below h hb).mono hb.size
theorem rd_slice {B size n:Nat}{v:Value}{xs:List Value}{W:World}(h:Rd B size v n xs W):v.oneCell'=true:=by
 obtain⟨ao,cap,rfl,_⟩:=h;rfl
theorem RdM.one {B:Nat}{v:Value}{ms:List NodeM}{W:World}(h:RdM B v ms W):OneM ms:=fun m hm=>rd_slice (h.2 m hm)
theorem eight {b off:Nat}{ms:List NodeM}{W:World}(hc : ∀j u,(cellsN ms)[j]? = some u→W.cell? ⟨b,off+j,none⟩=some u)(k:Nat)(h:k<ms.length) :
 W.cell? ⟨b,off+k*8,none⟩=some (.int .i64 ms[k].1.kind)∧W.cell? ⟨b,off+k*8+1,none⟩=some (.int .i64 ms[k].1.mode)∧W.cell? ⟨b,off+k*8+2,none⟩=some (.int .i64 ms[k].1.owner)∧W.cell? ⟨b,off+k*8+3,none⟩=some (.int .i64 ms[k].1.links)
 ∧ W.cell? ⟨b,off+k*8+4,none⟩=some (.int .i64 ms[k].1.opn)∧W.cell? ⟨b,off+k*8+5,none⟩=some (.int .i64 ms[k].1.up)∧W.cell? ⟨b,off+k*8+6,none⟩=some (.string (bs ms[k].1.data))∧W.cell? ⟨b,off+k*8+7,none⟩=some ms[k].2:=by
 refine⟨hc _ _ (cellsN_at ms k h 0 (by decide)),?_,?_,?_,?_,?_,?_,?_⟩
 all_goals (rw[Nat.add_assoc];exact hc _ _ (cellsN_at ms k h _ (by decide)))
theorem rdm_form {B:Nat}{v:Value}{ms:List NodeM}{W:World}(h:RdM B v ms W) : ∃ao cap,v = .slice ao ms.length cap∧ms.length≤cap∧cap≤maxLen:=h.1.form
def pl (ms:List NodeM):List NodeL:=ms.map (·.1)
theorem pl_len (ms:List NodeM):(pl ms).length=ms.length:=by simp[pl]
theorem pl_at (ms:List NodeM)(k:Nat)(h:k<ms.length):(pl ms)[k]'(by rw[pl_len];exact h)=ms[k].1:=by simp[pl]
theorem node_at {B:Nat}{ao:Option Addr}{cap:Nat}{ms:List NodeM}{W:World}(h:RdM B (.slice ao ms.length cap) ms W)(k:Nat)(hk:k<ms.length) :
 ∃(b off:Nat) (n:NodeL) (aon:Option Addr) (capn:Nat),ao=some ⟨b,off,none⟩∧b<B∧(pl ms)[k]'(by rw[pl_len];exact hk)=n∧ms[k]=(n, .slice aon n.names.length capn)∧Rd B 2 (.slice aon n.names.length capn) n.names.length (ents n.names) W
  ∧ W.cell? ⟨b,off+k*8,none⟩=some (.int .i64 n.kind)∧W.cell? ⟨b,off+k*8+1,none⟩=some (.int .i64 n.mode)∧W.cell? ⟨b,off+k*8+2,none⟩=some (.int .i64 n.owner)∧W.cell? ⟨b,off+k*8+3,none⟩=some (.int .i64 n.links)
  ∧ W.cell? ⟨b,off+k*8+4,none⟩=some (.int .i64 n.opn)∧W.cell? ⟨b,off+k*8+5,none⟩=some (.int .i64 n.up)∧W.cell? ⟨b,off+k*8+6,none⟩=some (.string (bs n.data))∧W.cell? ⟨b,off+k*8+7,none⟩=some (.slice aon n.names.length capn):=by
 obtain⟨b,off,cap',e,_,_,hb,_,hc⟩:=h.1.at (by omega);injection e with e1 _ e2;subst e1;subst e2;have h8:=eight hc k hk;have hr:Rd B 2 ms[k].2 ms[k].1.names.length (ents ms[k].1.names) W:=h.2 _ (List.getElem_mem hk);obtain⟨aon,capn,e,_,_⟩:=hr.form;refine⟨b,off,ms[k].1,aon,capn,rfl,hb,pl_at ms k hk,Prod.ext rfl e,by rw[←e];exact hr,?_⟩;rw[←e];exact h8
def GivesN (l:List NodeL)(v:Value)(W:World):Prop:=∃ms,pl ms=l∧RdM W.heap.size v ms W
theorem GivesN.keep {l:List NodeL}{v:Value}{W W':World}(h:GivesN l v W)(hb:Below W.heap.size W W'):GivesN l v W':=by
 obtain⟨ms,h1,h2⟩:=h;exact⟨ms,h1,rdm_keep h2 hb⟩
theorem heap_set {W:World}{b:Nat}{t:TypeId}{cs:Array Value}{i:Nat}{u:Value}(h:W.heap[b]? = some (.cells cs t (0,0))):(W.setCell ⟨b,i,none⟩ u).heap[b]? = some (.cells (cs.setIfInBounds i u) t (0,0)):=by
 simp[World.setCell,Array.getElem?_modify,h]
theorem sets8 {P:World→Prop}{W:World}{b:Nat}{u0 u1 u2 u3 u4 u5 u6 u7 r0 r1 r2 r3 r4 r5 r6 r7:Value}{t:TypeId}(hb:W.heap[b]? = some (.cells #[r0,r1,r2,r3,r4,r5,r6,r7] t (0,0)))
 (h : ∀W',Below b W W'→(∀g,g≠b→W'.heap[g]? = W.heap[g]?)→W'.heap.size=W.heap.size→W'.heap[b]? = some (.cells #[u0,u1,u2,u3,u4,u5,u6,u7] t (0,0))→P W'):P ((((((((W.setCell ⟨b,0,none⟩ u0).setCell ⟨b,1,none⟩ u1).setCell ⟨b,2,none⟩ u2).setCell ⟨b,3,none⟩ u3).setCell ⟨b,4,none⟩ u4).setCell ⟨b,5,none⟩ u5).setCell ⟨b,6,none⟩ u6).setCell ⟨b,7,none⟩ u7):=by
  refine h _ ?_ (fun g hg=> ?_) (by simp[World.setCell]) ?_
  · exact(((((((((Below.refl b W).setCell (p:=⟨b,0,none⟩) (Nat.le_refl _) u0).setCell (p:=⟨b,1,none⟩) (Nat.le_refl _) u1).setCell (p:=⟨b,2,none⟩) (Nat.le_refl _) u2).setCell (p:=⟨b,3,none⟩) (Nat.le_refl _) u3).setCell (p:=⟨b,4,none⟩) (Nat.le_refl _) u4).setCell (p:=⟨b,5,none⟩) (Nat.le_refl _) u5).setCell (p:=⟨b,6,none⟩) (Nat.le_refl _) u6).setCell (p:=⟨b,7,none⟩) (Nat.le_refl _) u7)
  · exact(Below.heap_setCell _ _ _ g hg).trans ((Below.heap_setCell _ _ _ g hg).trans ((Below.heap_setCell _ _ _ g hg).trans ((Below.heap_setCell _ _ _ g hg).trans ((Below.heap_setCell _ _ _ g hg).trans ((Below.heap_setCell _ _ _ g hg).trans ((Below.heap_setCell _ _ _ g hg).trans (Below.heap_setCell _ _ _ g hg)))))))
  · refine(heap_set (heap_set (heap_set (heap_set (heap_set (heap_set (heap_set (heap_set (hb))))))))).trans ?_
    simp
theorem sets3 {P:World→Prop}{W:World}{b:Nat}{u0 u1 u2 r0 r1 r2:Value}{t:TypeId}(hb:W.heap[b]? = some (.cells #[r0,r1,r2] t (0,0)))
 (h : ∀W',Below b W W'→(∀g,g≠b→W'.heap[g]? = W.heap[g]?)→W'.heap.size=W.heap.size→W'.heap[b]? = some (.cells #[u0,u1,u2] t (0,0))→P W'):P (((W.setCell ⟨b,0,none⟩ u0).setCell ⟨b,1,none⟩ u1).setCell ⟨b,2,none⟩ u2):=by
  refine h _ ?_ (fun g hg=> ?_) (by simp[World.setCell]) ?_
  · exact((((Below.refl b W).setCell (p:=⟨b,0,none⟩) (Nat.le_refl _) u0).setCell (p:=⟨b,1,none⟩) (Nat.le_refl _) u1).setCell (p:=⟨b,2,none⟩) (Nat.le_refl _) u2)
  · exact(Below.heap_setCell _ _ _ g hg).trans ((Below.heap_setCell _ _ _ g hg).trans (Below.heap_setCell _ _ _ g hg))
  · refine(heap_set (heap_set (heap_set (hb)))).trans ?_
    simp
theorem cells8 {W:World}{b:Nat}{u0 u1 u2 u3 u4 u5 u6 u7:Value}{t:TypeId}{f:Nat × Nat}(h:W.heap[b]? = some (.cells #[u0,u1,u2,u3,u4,u5,u6,u7] t f)) :
 W.cell? ⟨b,0,none⟩=some u0∧W.cell? ⟨b,1,none⟩=some u1∧W.cell? ⟨b,2,none⟩=some u2∧W.cell? ⟨b,3,none⟩=some u3∧W.cell? ⟨b,4,none⟩=some u4∧W.cell? ⟨b,5,none⟩=some u5∧W.cell? ⟨b,6,none⟩=some u6∧W.cell? ⟨b,7,none⟩=some u7:=by
 refine⟨?_,?_,?_,?_,?_,?_,?_,?_⟩<;>(rw[Lib.cell_of_heap h];rfl)
theorem cells3 {W:World}{b:Nat}{u0 u1 u2:Value}{t:TypeId}{f:Nat × Nat}(h:W.heap[b]? = some (.cells #[u0,u1,u2] t f)) :
 W.cell? ⟨b,0,none⟩=some u0∧W.cell? ⟨b,1,none⟩=some u1∧W.cell? ⟨b,2,none⟩=some u2:=by
 refine⟨?_,?_,?_⟩<;>(rw[Lib.cell_of_heap h];rfl)
theorem fresh1 {P:World→Prop}{w:World}{A:Obj}(h : ∀W,Below w.heap.size w W→W.heap[w.heap.size]? = some A→W.heap.size=w.heap.size+1→P W):P (w.alloc A) :=
 h _ ((Below.refl _ w).alloc (Nat.le_refl _) _) (heap_alloc_new w A) (by simp)
theorem fresh2 {P:World→Prop}{w:World}{A B:Obj}(h : ∀W,Below w.heap.size w W→W.heap[w.heap.size]? = some A→W.heap[w.heap.size+1]? = some B→W.heap.size=w.heap.size+2→P W):P ((w.alloc A).alloc B) :=
 fresh1 fun _ b1 h1 s1=>h _ (((Below.refl _ w).alloc (Nat.le_refl _) A).trans (b1.mono (by simp))) ((b1.block _ (by simp)).trans (heap_alloc_new w A)) (by simpa using h1) (by simpa using s1)
theorem fresh3 {P:World→Prop}{w:World}{A B C:Obj}(h : ∀W,Below w.heap.size w W→W.heap[w.heap.size]? = some A→W.heap[w.heap.size+1]? = some B→W.heap[w.heap.size+2]? = some C→W.heap.size=w.heap.size+3→P W):P (((w.alloc A).alloc B).alloc C) :=
 fresh1 fun _ b1 h1 s1=>h _ ((((Below.refl _ w).alloc (Nat.le_refl _) A).alloc (by simp) B).trans (b1.mono (by simp;omega))) ((b1.block _ (by simp;omega)).trans (((Below.refl _ _).alloc (Nat.le_refl _) B).block _ (by simp) |>.trans (heap_alloc_new w A)))
  ((b1.block _ (by simp)).trans (by have:=heap_alloc_new (w.alloc A) B;simpa using this)) (by simpa using h1) (by simpa using s1)
end Go.Proofs.YtpbmbpefophlfaaGreatDoor
namespace Go.Proofs.YtpbmbpefophlfaaGreatDoor
open Go.RowKit Go.Shelf
attribute [local go_sem ↓] Go.wp_at_zero Go.wp_at_succ
def withinB (n a b:Int):Bool:=decide (a≤n) && decide (n≤b)
set_option maxRecDepth 100000 in
theorem within_any (n a b:Int)(w:World):Calls Tryz.prog 55 #[.int .i64 n, .int .i64 a, .int .i64 b] w fun e w'=>e = .returned (.bool (withinB n a b))∧w=w':=by
 unfold withinB;by_cases h1:a≤n
 · have hI:decide (a≤n)=true:=by simpa using h1
   clear h1;go_enter Tryz.func55,Tryz.ntmps55;go_wp2_with fail;go_ret;exact⟨ret_bool (by rw[hI];rfl),rfl⟩
 · have hI:decide (a≤n)=false:=by simpa using h1
   go_enter Tryz.func55,Tryz.ntmps55;go_wp2_with fail;go_ret;exact⟨ret_bool (by simp),rfl⟩
set_option maxRecDepth 100000 in
theorem free_any (n:NodeL)(v:Value)(w:World):Calls Tryz.prog 38 #[nval n v] w fun e w'=>e = .returned (.bool (decide (n.kind=0)))∧Below w.heap.size w w':=by
 go_enter Tryz.func38,Tryz.ntmps38;go_wp2_with fail;go_ret;exact⟨ret_bool rfl,(Below.refl _ w).alloc (Nat.le_refl _) _⟩
set_option maxRecDepth 100000 in
theorem weight_any (n:NodeL)(v:Value)(w:World):Calls Tryz.prog 97 #[nval n v] w fun e w'=>e = .returned (.int .i64 (weightL n))∧Below w.heap.size w w':=by
 by_cases h1:n.kind=1
 · have hI:(n.kind == 1)=true:=by simpa using h1
   have HW:Hid (weightL n=n.data.length):=Lib.hid (by simp[weightL,h1]);clear h1;go_enter Tryz.func97,Tryz.ntmps97;go_wp2_with fail;go_ret;exact⟨ret_int (by rw[HW.out]),(Below.refl _ w).alloc (Nat.le_refl _) _⟩
 (have hI:(n.kind == 1)=false:=by simpa using h1);by_cases h3:n.kind=3
 · have hJ:(n.kind == 3)=true:=by simpa using h3
   have HW:Hid (weightL n=n.data.length):=Lib.hid (by simp[weightL,h3]);clear h1 h3;go_enter Tryz.func97,Tryz.ntmps97;go_wp2_with fail;go_ret;exact⟨ret_int (by rw[HW.out]),(Below.refl _ w).alloc (Nat.le_refl _) _⟩
 · have hJ:(n.kind == 3)=false:=by simpa using h3
   have HW:Hid (weightL n=0):=Lib.hid (by simp[weightL,h1,h3]);clear h1 h3;go_enter Tryz.func97,Tryz.ntmps97;go_wp2_with fail;go_ret;exact⟨ret_int (by rw[HW.out];rfl),(Below.refl _ w).alloc (Nat.le_refl _) _⟩
theorem within_in (l:List NodeL)(j:Int)(k:Nat)(h:k=l.length):withinB j 0 ((k:Int)-1)=inL l j:=by
 subst h;unfold withinB inL;congr 1;rw[Bool.eq_iff_iff,decide_eq_true_iff,decide_eq_true_iff];omega
set_option maxRecDepth 100000 in
theorem has_any (l:List NodeL)(ao:Option Addr)(n cap:Nat)(most room j:Int)(w:World)(hn:n=l.length)(hl:n≤65000):Calls Tryz.prog 51 #[.agg #[.slice ao n cap, .int .i64 most, .int .i64 room], .int .i64 j] w fun e w'=>e = .returned (.bool (inL l j))∧Below w.heap.size w w':=by
 subst hn;have HI:=Lib.hid (within_in l j _ rfl);go_enter Tryz.func51,Tryz.ntmps51;go_wp2_with fail;refine(within_any _ _ _ _).mono ?_;rintro e w1 ⟨rfl,rfl⟩;go_wp2_with fail;go_ret;exact⟨ret_bool HI.out,(Below.refl _ w).alloc (Nat.le_refl _) _⟩
theorem bytes_at {ms:List NodeM}(hs:Small (pl ms))(k:Nat)(h:k<ms.length):bytesL ((pl ms).take k)≤220000∧bytesL ((pl ms).take (k+1))=bytesL ((pl ms).take k)+weightL ((pl ms)[k]'(by rw[pl_len];exact h))∧weightL ((pl ms)[k]'(by rw[pl_len];exact h))≤2000 :=
 ⟨bytes_take_le hs k,bytes_succ (pl ms) k (by rw[pl_len];exact h),weight_le (hs.2 _ (List.getElem_mem _))⟩
set_option maxRecDepth 100000 in
set_option maxHeartbeats 1000000 in
theorem rbytes_any (v:Value)(ms:List NodeM)(most room:Int)(w:World)(hv:RdM w.heap.size v ms w)(hsm:Small (pl ms)) :
 Calls Tryz.prog 49 #[.agg #[v, .int .i64 most, .int .i64 room]] w fun e w'=>e = .returned (.int .i64 (bytesL (pl ms)))∧Below w.heap.size w w':=by
 obtain⟨ao,cap,rfl,_,_⟩:=rdm_form hv;(have hl:ms.length≤110:=by have:=hsm.1;rwa [pl_len]at this);have HS:=Lib.hid hsm;have HV:=Lib.hid hv;clear hv hsm;go_enter Tryz.func49,Tryz.ntmps49;go_wp2_with fail;have hb0:Below w.heap.size w (w.alloc (.cells #[.slice ao ms.length cap, .int .i64 most, .int .i64 room] 42)):=(Below.refl _ w).alloc (Nat.le_refl _) _;have hbF:=heap_alloc_new w (.cells #[.slice ao ms.length cap, .int .i64 most, .int .i64 room] 42);(have hsz:w.heap.size<(w.alloc (.cells #[.slice ao ms.length cap, .int .i64 most, .int .i64 room] 42)).heap.size:=by simp);generalize w.alloc (.cells #[.slice ao ms.length cap, .int .i64 most, .int .i64 room] 42)=W0 at *;go_loopw [3,4] (fun z i wr=>∃k:Nat,i = .int .i64 k∧k≤ms.length∧z = .int .i64 (bytesL ((pl ms).take k))∧Below W0.heap.size W0 wr) (fun _ i _=>ms.length-(intOf i).toNat)
 case atStart=>exact⟨0,rfl,Nat.zero_le _,rfl,Below.refl _ _⟩
 case round =>
  obtain⟨k,rfl,hk,rfl,hBr⟩:=hrel;have sB:=hBr.size;(have d0:wr.cell? ⟨w.heap.size,0,none⟩=some (.slice ao ms.length cap):=by rw[Lib.cell_of_heap ((hBr.block _ hsz).trans hbF)];rfl);have hBw:Below w.heap.size w wr:=hb0.trans (hBr.mono (by omega));by_cases hlt:k<ms.length
  · obtain⟨b,off,n,aon,capn,rfl,hb,hn, -, -,c0,c1,c2,c3,c4,c5,c6,c7⟩:=node_at (HV.out.below hBw) k hlt
    obtain⟨hle,hs,hw⟩:=bytes_at HS.out k hlt;rw[hn]at hs hw;have HQ:=Lib.hid hs;clear hs hn;generalize bytesL ((pl ms).take k)=z at *;go_wp2_with fail;refine(weight_any n _ _).mono ?_;rintro e w1 ⟨rfl,hb2⟩;have hb3:=ret_tr hBr hb2;go_wp2_with fail;go_roundw
    case rel=>exact⟨k+1,by go_num,hlt,by rw[HQ.out];go_num,hb3⟩
    case measure=>simp[intOf];omega
  · have hke:k=ms.length:=by omega
    have HT:Hid ((pl ms).take k=pl ms):=Lib.hid (by rw[hke,←pl_len,List.take_length]);(have hI2:decide (k<ms.length)=false:=by simp;omega);clear hke hlt;go_wp2_with fail;go_ret;exact⟨ret_int (by rw[HT.out]),hBw⟩
end Go.Proofs.YtpbmbpefophlfaaGreatDoor
