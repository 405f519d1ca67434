import Derived.Test.YtmiekcdkamgknaaGreatDoorR13
namespace Go.Proofs.YtmiekcdkamgknaaGreatDoor
structure NodeL where
 kind:Int
 mode:Int
 owner:Int
 links:Int
 opn:Int
 up:Int
 data:Nm
 names:List EntL
def zeroN:NodeL:=⟨0,0,0,0,0,0,[],[]⟩
theorem node_ext {a b:NodeL}(h0:a.kind=b.kind)(h1:a.mode=b.mode)(h2:a.owner=b.owner)(h3:a.links=b.links)(h4:a.opn=b.opn)(h5:a.up=b.up)(h6:a.data=b.data)(h7:a.names=b.names):a=b:=by
 cases a;cases b;simp_all
instance:DecidableEq NodeL:=fun a b =>
 decidable_of_iff (a.kind=b.kind∧a.mode=b.mode∧a.owner=b.owner∧a.links=b.links∧a.opn=b.opn∧a.up=b.up∧a.data=b.data∧a.names=b.names)
  ⟨fun⟨h0,h1,h2,h3,h4,h5,h6,h7⟩=>node_ext h0 h1 h2 h3 h4 h5 h6 h7,fun h=>by subst h;simp⟩
def weightL (n:NodeL):Nat:=if n.kind=1∨n.kind=3 then n.data.length else 0
def bytesL (l:List NodeL):Nat:=(l.map weightL).sum
def usedL (l:List NodeL):Nat:=l.countP fun n=> !decide (n.kind=0)
theorem bytes_succ (l:List NodeL)(k:Nat)(h:k<l.length):bytesL (l.take (k+1))=bytesL (l.take k)+weightL l[k]:=by
 unfold bytesL;rw[List.take_succ_eq_append_getElem h,List.map_append,List.sum_append];simp
def SmallN (n:NodeL):Prop:=n.data.length≤2000∧n.names.length≤130
def Small (l:List NodeL):Prop:=l.length≤110∧∀n∈l,SmallN n
theorem weight_le {n:NodeL}(h:SmallN n):weightL n≤2000:=by
 unfold weightL;split
 · exact h.1
 · omega
theorem bytes_le (l:List NodeL)(h : ∀n∈l,SmallN n):bytesL l≤l.length*2000:=by
 induction l with
 | nil=>simp[bytesL]
 | cons a l ih =>
    (have h1:=ih fun n hn=>h n (by simp[hn]));have h2:=weight_le (h a (by simp));(have:bytesL (a::l)=weightL a+bytesL l:=by simp[bytesL]);rw[this,List.length_cons];omega
theorem bytes_take_le {l:List NodeL}(h:Small l)(k:Nat):bytesL (l.take k)≤220000:=by
 (have h1:=bytes_le (l.take k) fun n hn=>h.2 n (List.mem_of_mem_take hn));(have h2:(l.take k).length≤110:=by have:=h.1;rw[List.length_take];omega);omega
def stepN (i at':Int)(s:Nat × Int)(e:EntL):Nat × Int:=if e.2=i then(s.1+1,at')else s
def foldN (i at':Int)(s:Nat × Int)(es:List EntL):Nat × Int:=es.foldl (stepN i at') s
def nmTo (l:List NodeL)(i:Int)(s0:Nat × Int):Nat→Nat × Int
 | 0=>s0
 | k+1=>foldN i k (nmTo l i s0 k) (l.getD k zeroN).names
def nmL (l:List NodeL)(i:Int)(s0:Nat × Int):Nat × Int:=nmTo l i s0 l.length
theorem foldN_succ (i at':Int)(s:Nat × Int)(es:List EntL)(j:Nat)(h:j<es.length):foldN i at' s (es.take (j+1))=stepN i at' (foldN i at' s (es.take j)) es[j]:=by
 unfold foldN;rw[List.take_succ_eq_append_getElem h,List.foldl_append];rfl
def Holds (l:List NodeL)(i:Int)(s:Nat × Int):Prop:=0<s.1→∃k:Nat,s.2=k∧∃h:k<l.length,∃e∈l[k].names,e.2=i
theorem fold_holds (l:List NodeL)(i:Int)(k:Nat)(hk:k<l.length)(es:List EntL):(∀e∈es,e∈l[k].names)→∀s,Holds l i s→Holds l i (foldN i k s es):=by
 induction es with
 | nil=>intro _ s h;exact h
 | cons e es ih =>
    intro hes s h;refine ih (fun e he=>hes e (by simp[he])) _ ?_;unfold stepN;split
    · rename_i he
      exact fun _=>⟨k,rfl,hk,e,hes e (by simp),he⟩
    · exact h
theorem nm_holds (l:List NodeL)(i x:Int):Holds l i (nmL l i (0,x)):=by
 unfold nmL
 have : ∀k,k≤l.length→Holds l i (nmTo l i (0,x) k):=by
  intro k
  induction k with
  | zero=>exact fun _ h=>absurd h (Nat.lt_irrefl 0)
  | succ k ih =>
     intro hk;refine fold_holds l i k (by omega) _ (fun e he=> ?_) _ (ih (by omega));rw[List.getD_eq_getElem?_getD,List.getElem?_eq_getElem (by omega)]at he;exact he
 exact this _ (Nat.le_refl _)
theorem fold_le (i at':Int)(es:List EntL)(s:Nat × Int):(foldN i at' s es).1≤s.1+es.length:=by
 induction es generalizing s with
 | nil=>exact Nat.le_refl _
 | cons e es ih =>
    have h1:=ih (stepN i at' s e);(have h2:(stepN i at' s e).1≤s.1+1:=by unfold stepN;split<;>simp);show(foldN i at' (stepN i at' s e) es).1≤_;rw[List.length_cons];omega
theorem nm_le {l:List NodeL}(hs:Small l)(i:Int)(s:Nat × Int)(k:Nat):(nmTo l i s k).1≤s.1+k*130:=by
 induction k with
 | zero=>simp[nmTo]
 | succ k ih =>
    have h1:=fold_le i k (l.getD k zeroN).names (nmTo l i s k)
    have h2:(l.getD k zeroN).names.length≤130:=by
     rw[List.getD_eq_getElem?_getD]
     cases hg:l[k]? with
     | none=>exact Nat.zero_le _
     | some n=>exact(hs.2 n (List.mem_of_getElem? hg)).2
    show(foldN i k (nmTo l i s k) (l.getD k zeroN).names).1≤_;omega
def inL (l:List NodeL)(j:Int):Bool:=decide (0≤j) && decide (j<l.length)
def atI (l:List NodeL)(j:Int):NodeL:=l.getD j.toNat zeroN
def gotB (l:List NodeL)(j:Int):Bool:=inL l j && !decide ((atI l j).kind=0)
def plainB (n:NodeL):Bool:=decide (1≤n.kind) && decide (n.kind≤3) && decide (0≤n.mode) && decide (n.mode≤63) && decide (0≤n.opn)
def namB (l:List NodeL)(e:EntL):Bool:=gotB l e.2 && !decide (e.2=0)
def namableB (l:List NodeL)(es:List EntL):Bool:=es.all (namB l)
def rootR (l:List NodeL):Nat→Int→Bool
 | 0,_=>false
 | f+1,j=>if j=0 then true else if gotB l j && decide ((atI l j).kind=2)then rootR l f (atI l j).up else false
def lastR (l:List NodeL)(i:Int)(n:NodeL)(s:Nat × Int):Bool :=
 if i=0 then decide (n.kind=2) && decide (n.up=0) && decide (n.links=1)
 else if n.links≠s.1∨(s.1=0∧n.opn<1)then false
 else if n.kind≠2 then true
 else if s.1=0 then decide (n.names.length=0) && decide (n.up=0)
 else decide (s.1=1) && decide (n.up=s.2) && rootR l (l.length+1) i
def okR (l:List NodeL)(i:Nat)(n:NodeL):Bool :=
 if n.kind=0 then decide (n=zeroN)
 else plainB n && (decide (n.kind=2) || decide (n.names.length=0)) && (!decide (n.kind=2) || decide (n.data = [])) && decide (SortedP n.names) && namableB l n.names && lastR l i n (nmL l i (0, -1))
def rightR (l:List NodeL)(most room:Int):Bool :=
 !decide (l.length=0) && !decide (most<l.length) && !decide (room<bytesL l) && decide ((atI l 0).kind=2) && (List.range l.length).all fun i=>okR l i (atI l i)
theorem at_nat (l:List NodeL)(i:Nat)(h:i<l.length):atI l i=l[i]:=by
 unfold atI;rw[Int.toNat_natCast,List.getD_eq_getElem?_getD,List.getElem?_eq_getElem h];rfl
theorem in_nat {l:List NodeL}{j:Int}(h:inL l j=true) : ∃k:Nat,j=k∧k<l.length:=by
 unfold inL at h;rw[Bool.and_eq_true,decide_eq_true_iff,decide_eq_true_iff]at h;exact⟨j.toNat,by omega,by omega⟩
theorem nat_in {l:List NodeL}{k:Nat}(h:k<l.length):inL l (k:Int)=true:=by
 unfold inL;rw[Bool.and_eq_true,decide_eq_true_iff,decide_eq_true_iff];omega
theorem range_all (p:Nat→Bool)(n:Nat):(List.range n).all p=true↔ ∀i,i<n→p i=true:=by simp
theorem pigeon : ∀(n:Nat) (L:List Nat),L.Nodup→(∀x∈L,x<n)→L.length≤n:=by
 intro n
 induction n with
 | zero =>
    intro L _ h
    cases L with
    | nil=>exact Nat.le_refl _
    | cons a L=>exact absurd (h a (by simp)) (Nat.not_lt_zero _)
 | succ n ih =>
    intro L hd h
    have h1:=ih (L.erase n) (hd.erase n) fun x hx=>by
     have h2:=(hd.mem_erase_iff).1 hx;have h3:=h x h2.2;have:=h2.1;omega
    rw[List.length_erase]at h1;split at h1<;>omega
end Go.Proofs.YtmiekcdkamgknaaGreatDoor
namespace Go.Proofs.YtmiekcdkamgknaaGreatDoor
open Go.RowKit Go.Shelf
abbrev NodeM:=NodeL × Value
abbrev nval (n:NodeL)(v:Value):Value:= .agg #[.int .i64 n.kind, .int .i64 n.mode, .int .i64 n.owner, .int .i64 n.links, .int .i64 n.opn, .int .i64 n.up, .string (bs n.data),v]
def ncells (m:NodeM):List Value:= [.int .i64 m.1.kind, .int .i64 m.1.mode, .int .i64 m.1.owner, .int .i64 m.1.links, .int .i64 m.1.opn, .int .i64 m.1.up, .string (bs m.1.data),m.2]
def cellsN (ms:List NodeM):List Value:=ms.flatMap ncells
theorem cellsN_len (ms:List NodeM):(cellsN ms).length=ms.length*8:=by
 induction ms with
 | nil=>rfl
 | cons m ms ih =>
    (have:cellsN (m::ms)=ncells m++cellsN ms:=by simp[cellsN]);rw[this,List.length_append,ih,List.length_cons];show 8+_=_;omega
theorem cellsN_app (a b:List NodeM):cellsN (a++b)=cellsN a++cellsN b:=by simp[cellsN]
theorem cellsN_at (ms:List NodeM)(k:Nat)(h:k<ms.length)(j:Nat)(hj:j<8):(cellsN ms)[k*8+j]? = (ncells ms[k])[j]?:= by
 induction ms generalizing k with
 | nil=>simp at h
 | cons m ms ih =>
    (have e:cellsN (m::ms)=ncells m++cellsN ms:=by simp[cellsN]);have l8:(ncells m).length=8:=rfl;rw[e]
    cases k with
    | zero =>
       rw[List.getElem?_append_left (by omega)];simp
    | succ k =>
       rw[List.getElem?_append_right (by omega),l8,show(k+1)*8+j-8=k*8+j by omega];exact ih k (by simpa using h)
theorem cellsN_set (ms:List NodeM)(k:Nat)(h:k<ms.length)(m:NodeM)(j:Nat):(cellsN (ms.set k m))[j]? = if k*8≤j∧j<k*8+8 then(ncells m)[j-k*8]? else(cellsN ms)[j]?:= by
 rcases Nat.lt_or_ge j (ms.length*8)with hj | hj
 · obtain⟨q,r,rfl,hr⟩ : ∃q r,j=q*8+r∧r<8:=⟨j / 8,j % 8,by omega,by omega⟩
   (have hq:q<ms.length:=by omega);rw[cellsN_at _ q (by simpa using hq) r hr];by_cases e:q=k
   · subst e
     rw[if_pos (by omega),show q*8+r-q*8=r by omega,List.getElem_set_self]
   · rw[if_neg (by omega),cellsN_at ms q hq r hr,List.getElem_set_ne (Ne.symm e)]
 · rw[List.getElem?_eq_none (by rw[cellsN_len,List.length_set];exact hj),if_neg (by omega),List.getElem?_eq_none (by rw[cellsN_len];exact hj)]
def OneM (ms:List NodeM):Prop:=∀m∈ms,m.2.oneCell'=true
theorem cellsN_one {ms:List NodeM}(h:OneM ms) : ∀u∈cellsN ms,u.oneCell'=true:=by
 intro u hu;obtain⟨m,hm,hu⟩:=List.mem_flatMap.1 hu;simp only[ncells,List.mem_cons,List.not_mem_nil,or_false]at hu;rcases hu with rfl | rfl | rfl | rfl | rfl | rfl | rfl | rfl
 all_goals first | rfl | exact h m hm
theorem own_one {W:World}{base:Nat}{e:TypeId}{size n:Nat}{v:Value}{xs:List Value}(h:W.ownsRow base e size v n xs):v.oneCell'=true:=by
 obtain⟨ao,cap,rfl⟩:=own_form h;rfl
theorem ncells_one {W:World}{base:Nat}{e:TypeId}{size k:Nat}{n:NodeL}{v:Value}{xs:List Value}(h:W.ownsRow base e size v k xs) : ∀u∈ncells (n,v),u.oneCell'=true:=by
 intro u hu;simp only[ncells,List.mem_cons,List.not_mem_nil,or_false]at hu;rcases hu with rfl | rfl | rfl | rfl | rfl | rfl | rfl | rfl
 all_goals first | rfl | exact own_one h
def RdNm (B:Nat)(m:NodeM)(W:World):Prop:=Rd B 2 m.2 m.1.names.length (ents m.1.names) W
def RdM (B:Nat)(v:Value)(ms:List NodeM)(W:World):Prop:=Rd B 8 v ms.length (cellsN ms) W∧∀m∈ms,RdNm B m W
theorem RdM.below {B:Nat}{v:Value}{ms:List NodeM}{W W':World}(h:RdM B v ms W)(hb:Below B W W'):RdM B v ms W':=⟨h.1.below hb,fun m hm=>Rd.below (h.2 m hm) hb⟩
theorem RdM.mono {B B':Nat}{v:Value}{ms:List NodeM}{W:World}(h:RdM B v ms W)(hb:B≤B'):RdM B' v ms W:=⟨h.1.mono hb,fun m hm=>Rd.mono (h.2 m hm) hb⟩
theorem ret_tr {w w1 w2:World}(h1:Below w.heap.size w w1)(h2:Below w1.heap.size w1 w2):Below w.heap.size w w2:=h1.trans (h2.mono h1.size)
theorem rd_keep {size n:Nat}{v:Value}{xs:List Value}{W W':World}(h:Rd W.heap.size size v n xs W)(hb:Below W.heap.size W W'):Rd W'.heap.size size v n xs W':=(h.below hb).mono hb.size
theorem rdm_keep {v:Value}{ms:List NodeM}{W W':World}(h:RdM W.heap.size v ms W)(hb:Below W.heap.size W W'):RdM W'.heap.size v ms W':=(h.below hb).mono hb.size
theorem rdnm_keep {m:NodeM}{W W':World}(h:RdNm W.heap.size m W)(hb:Below W.heap.size W W'):RdNm W'.heap.size m W':=(Rd.below h hb).mono hb.size
theorem rd_slice {B size n:Nat}{v:Value}{xs:List Value}{W:World}(h:Rd B size v n xs W):v.oneCell'=true:=by
 obtain⟨ao,cap,rfl,_⟩:=h;rfl
theorem RdM.one {B:Nat}{v:Value}{ms:List NodeM}{W:World}(h:RdM B v ms W):OneM ms:=fun m hm=>rd_slice (h.2 m hm)
theorem eight {b off:Nat}{ms:List NodeM}{W:World}(hc : ∀j u,(cellsN ms)[j]? = some u→W.cell? ⟨b,off+j,none⟩=some u)(k:Nat)(h:k<ms.length) :
 W.cell? ⟨b,off+k*8,none⟩=some (.int .i64 ms[k].1.kind)∧W.cell? ⟨b,off+k*8+1,none⟩=some (.int .i64 ms[k].1.mode)∧W.cell? ⟨b,off+k*8+2,none⟩=some (.int .i64 ms[k].1.owner)∧W.cell? ⟨b,off+k*8+3,none⟩=some (.int .i64 ms[k].1.links)
 ∧ W.cell? ⟨b,off+k*8+4,none⟩=some (.int .i64 ms[k].1.opn)∧W.cell? ⟨b,off+k*8+5,none⟩=some (.int .i64 ms[k].1.up)∧W.cell? ⟨b,off+k*8+6,none⟩=some (.string (bs ms[k].1.data))∧W.cell? ⟨b,off+k*8+7,none⟩=some ms[k].2:=by
 refine⟨hc _ _ (cellsN_at ms k h 0 (by decide)),?_,?_,?_,?_,?_,?_,?_⟩
 all_goals (rw[Nat.add_assoc];exact hc _ _ (cellsN_at ms k h _ (by decide)))
theorem rdm_form {B:Nat}{v:Value}{ms:List NodeM}{W:World}(h:RdM B v ms W) : ∃ao cap,v = .slice ao ms.length cap∧ms.length≤cap∧cap≤maxLen:=h.1.form
def pl (ms:List NodeM):List NodeL:=ms.map (·.1)
theorem pl_len (ms:List NodeM):(pl ms).length=ms.length:=by simp[pl]
theorem pl_at (ms:List NodeM)(k:Nat)(h:k<ms.length):(pl ms)[k]'(by rw[pl_len];exact h)=ms[k].1:=by simp[pl]
theorem node_at {B:Nat}{ao:Option Addr}{cap:Nat}{ms:List NodeM}{W:World}(h:RdM B (.slice ao ms.length cap) ms W)(k:Nat)(hk:k<ms.length) :
 ∃(b off:Nat) (n:NodeL) (aon:Option Addr) (capn:Nat),ao=some ⟨b,off,none⟩∧b<B∧(pl ms)[k]'(by rw[pl_len];exact hk)=n∧ms[k]=(n, .slice aon n.names.length capn)∧Rd B 2 (.slice aon n.names.length capn) n.names.length (ents n.names) W
  ∧ W.cell? ⟨b,off+k*8,none⟩=some (.int .i64 n.kind)∧W.cell? ⟨b,off+k*8+1,none⟩=some (.int .i64 n.mode)∧W.cell? ⟨b,off+k*8+2,none⟩=some (.int .i64 n.owner)∧W.cell? ⟨b,off+k*8+3,none⟩=some (.int .i64 n.links)
  ∧ W.cell? ⟨b,off+k*8+4,none⟩=some (.int .i64 n.opn)∧W.cell? ⟨b,off+k*8+5,none⟩=some (.int .i64 n.up)∧W.cell? ⟨b,off+k*8+6,none⟩=some (.string (bs n.data))∧W.cell? ⟨b,off+k*8+7,none⟩=some (.slice aon n.names.length capn):=by
 obtain⟨b,off,cap',e,_,_,hb,_,hc⟩:=h.1.at (by omega);injection e with e1 _ e2;subst e1;subst e2;have h8:=eight hc k hk;have hr:Rd B 2 ms[k].2 ms[k].1.names.length (ents ms[k].1.names) W:=h.2 _ (List.getElem_mem hk);obtain⟨aon,capn,e,_,_⟩:=hr.form;refine⟨b,off,ms[k].1,aon,capn,rfl,hb,pl_at ms k hk,Prod.ext rfl e,by rw[←e];exact hr,?_⟩;rw[←e];exact h8
def GivesN (l:List NodeL)(v:Value)(W:World):Prop:=∃ms,pl ms=l∧RdM W.heap.size v ms W
theorem GivesN.keep {l:List NodeL}{v:Value}{W W':World}(h:GivesN l v W)(hb:Below W.heap.size W W'):GivesN l v W':=by
 obtain⟨ms,h1,h2⟩:=h;exact⟨ms,h1,rdm_keep h2 hb⟩
theorem heap_set {W:World}{b:Nat}{t:TypeId}{cs:Array Value}{i:Nat}{u:Value}(h:W.heap[b]? = some (.cells cs t (0,0))):(W.setCell ⟨b,i,none⟩ u).heap[b]? = some (.cells (cs.setIfInBounds i u) t (0,0)):=by
 simp[World.setCell,Array.getElem?_modify,h]
theorem sets8 {P:World→Prop}{W:World}{b:Nat}{u0 u1 u2 u3 u4 u5 u6 u7 r0 r1 r2 r3 r4 r5 r6 r7:Value}{t:TypeId}(hb:W.heap[b]? = some (.cells #[r0,r1,r2,r3,r4,r5,r6,r7] t (0,0)))
 (h : ∀W',Below b W W'→(∀g,g≠b→W'.heap[g]? = W.heap[g]?)→W'.heap.size=W.heap.size→W'.heap[b]? = some (.cells #[u0,u1,u2,u3,u4,u5,u6,u7] t (0,0))→P W'):P ((((((((W.setCell ⟨b,0,none⟩ u0).setCell ⟨b,1,none⟩ u1).setCell ⟨b,2,none⟩ u2).setCell ⟨b,3,none⟩ u3).setCell ⟨b,4,none⟩ u4).setCell ⟨b,5,none⟩ u5).setCell ⟨b,6,none⟩ u6).setCell ⟨b,7,none⟩ u7):=by
  refine h _ ?_ (fun g hg=> ?_) (by simp[World.setCell]) ?_
  · exact(((((((((Below.refl b W).setCell (p:=⟨b,0,none⟩) (Nat.le_refl _) u0).setCell (p:=⟨b,1,none⟩) (Nat.le_refl _) u1).setCell (p:=⟨b,2,none⟩) (Nat.le_refl _) u2).setCell (p:=⟨b,3,none⟩) (Nat.le_refl _) u3).setCell (p:=⟨b,4,none⟩) (Nat.le_refl _) u4).setCell (p:=⟨b,5,none⟩) (Nat.le_refl _) u5).setCell (p:=⟨b,6,none⟩) (Nat.le_refl _) u6).setCell (p:=⟨b,7,none⟩) (Nat.le_refl _) u7)
  · exact(Below.heap_setCell _ _ _ g hg).trans ((Below.heap_setCell _ _ _ g hg).trans ((Below.heap_setCell _ _ _ g hg).trans ((Below.heap_setCell _ _ _ g hg).trans ((Below.heap_setCell _ _ _ g hg).trans ((Below.heap_setCell _ _ _ g hg).trans ((Below.heap_setCell _ _ _ g hg).trans (Below.heap_setCell _ _ _ g hg)))))))
  · refine(heap_set (heap_set (heap_set (heap_set (heap_set (heap_set (heap_set (heap_set (hb))))))))).trans ?_
    simp
theorem sets3 {P:World→Prop}{W:World}{b:Nat}{u0 u1 u2 r0 r1 r2:Value}{t:TypeId}(hb:W.heap[b]? = some (.cells #[r0,r1,r2] t (0,0)))
 (h : ∀W',Below b W W'→(∀g,g≠b→W'.heap[g]? = W.heap[g]?)→W'.heap.size=W.heap.size→W'.heap[b]? = some (.cells #[u0,u1,u2] t (0,0))→P W'):P (((W.setCell ⟨b,0,none⟩ u0).setCell ⟨b,1,none⟩ u1).setCell ⟨b,2,none⟩ u2):=by
  refine h _ ?_ (fun g hg=> ?_) (by simp[World.setCell]) ?_
  · exact((((Below.refl b W).setCell (p:=⟨b,0,none⟩) (Nat.le_refl _) u0).setCell (p:=⟨b,1,none⟩) (Nat.le_refl _) u1).setCell (p:=⟨b,2,none⟩) (Nat.le_refl _) u2)
  · exact(Below.heap_setCell _ _ _ g hg).trans ((Below.heap_setCell _ _ _ g hg).trans (Below.heap_setCell _ _ _ g hg))
  · refine(heap_set (heap_set (heap_set (hb)))).trans ?_
    simp
theorem cells8 {W:World}{b:Nat}{u0 u1 u2 u3 u4 u5 u6 u7:Value}{t:TypeId}{f:Nat × Nat}(h:W.heap[b]? = some (.cells #[u0,u1,u2,u3,u4,u5,u6,u7] t f)) :
 W.cell? ⟨b,0,none⟩=some u0∧W.cell? ⟨b,1,none⟩=some u1∧W.cell? ⟨b,2,none⟩=some u2∧W.cell? ⟨b,3,none⟩=some u3∧W.cell? ⟨b,4,none⟩=some u4∧W.cell? ⟨b,5,none⟩=some u5∧W.cell? ⟨b,6,none⟩=some u6∧W.cell? ⟨b,7,none⟩=some u7:=by
 refine⟨?_,?_,?_,?_,?_,?_,?_,?_⟩<;>(rw[Lib.cell_of_heap h];rfl)
theorem cells3 {W:World}{b:Nat}{u0 u1 u2:Value}{t:TypeId}{f:Nat × Nat}(h:W.heap[b]? = some (.cells #[u0,u1,u2] t f)) :
 W.cell? ⟨b,0,none⟩=some u0∧W.cell? ⟨b,1,none⟩=some u1∧W.cell? ⟨b,2,none⟩=some u2:=by
 refine⟨?_,?_,?_⟩<;>(rw[Lib.cell_of_heap h];rfl)
theorem fresh1 {P:World→Prop}{w:World}{A:Obj}(h : ∀W,Below w.heap.size w W→W.heap[w.heap.size]? = some A→W.heap.size=w.heap.size+1→P W):P (w.alloc A) :=
 h _ ((Below.refl _ w).alloc (Nat.le_refl _) _) (heap_alloc_new w A) (by simp)
theorem fresh2 {P:World→Prop}{w:World}{A B:Obj}(h : ∀W,Below w.heap.size w W→W.heap[w.heap.size]? = some A→W.heap[w.heap.size+1]? = some B→W.heap.size=w.heap.size+2→P W):P ((w.alloc A).alloc B) :=
 fresh1 fun _ b1 h1 s1=>h _ (((Below.refl _ w).alloc (Nat.le_refl _) A).trans (b1.mono (by simp))) ((b1.block _ (by simp)).trans (heap_alloc_new w A)) (by simpa using h1) (by simpa using s1)
theorem fresh3 {P:World→Prop}{w:World}{A B C:Obj}(h : ∀W,Below w.heap.size w W→W.heap[w.heap.size]? = some A→W.heap[w.heap.size+1]? = some B→W.heap[w.heap.size+2]? = some C→W.heap.size=w.heap.size+3→P W):P (((w.alloc A).alloc B).alloc C) :=
 fresh1 fun _ b1 h1 s1=>h _ ((((Below.refl _ w).alloc (Nat.le_refl _) A).alloc (by simp) B).trans (b1.mono (by simp;omega))) ((b1.block _ (by simp;omega)).trans (((Below.refl _ _).alloc (Nat.le_refl _) B).block _ (by simp) |>.trans (heap_alloc_new w A)))
  ((b1.block _ (by simp)).trans (by have:=heap_alloc_new (w.alloc A) B;simpa using this)) (by simpa using h1) (by simpa using s1)
end Go.Proofs.YtmiekcdkamgknaaGreatDoor
namespace Go.Proofs.YtmiekcdkamgknaaGreatDoor
open Go.RowKit Go.Shelf
attribute [local go_sem ↓] Go.wp_at_zero Go.wp_at_succ
def withinB (n a b:Int):Bool:=decide (a≤n) && decide (n≤b)
set_option maxRecDepth 100000 in
theorem within_any (n a b:Int)(w:World):Calls Tryz.prog 37 #[.int .i64 n, .int .i64 a, .int .i64 b] w fun e w'=>e = .returned (.bool (withinB n a b))∧w=w':=by
 unfold withinB;by_cases h1:a≤n
 · have hI:decide (a≤n)=true:=by simpa using h1
   clear h1;go_enter Tryz.func37,Tryz.ntmps37;go_wp2_with fail;go_ret;exact⟨ret_bool (by rw[hI];rfl),rfl⟩
 · have hI:decide (a≤n)=false:=by simpa using h1
   go_enter Tryz.func37,Tryz.ntmps37;go_wp2_with fail;go_ret;exact⟨ret_bool (by simp),rfl⟩
set_option maxRecDepth 100000 in
theorem free_any (n:NodeL)(v:Value)(w:World):Calls Tryz.prog 54 #[nval n v] w fun e w'=>e = .returned (.bool (decide (n.kind=0)))∧Below w.heap.size w w':=by
 go_enter Tryz.func54,Tryz.ntmps54;go_wp2_with fail;go_ret;exact⟨ret_bool rfl,(Below.refl _ w).alloc (Nat.le_refl _) _⟩
set_option maxRecDepth 100000 in
theorem weight_any (n:NodeL)(v:Value)(w:World):Calls Tryz.prog 81 #[nval n v] w fun e w'=>e = .returned (.int .i64 (weightL n))∧Below w.heap.size w w':=by
 by_cases h1:n.kind=1
 · have hI:(n.kind == 1)=true:=by simpa using h1
   have HW:Hid (weightL n=n.data.length):=Lib.hid (by simp[weightL,h1]);clear h1;go_enter Tryz.func81,Tryz.ntmps81;go_wp2_with fail;go_ret;exact⟨ret_int (by rw[HW.out]),(Below.refl _ w).alloc (Nat.le_refl _) _⟩
 (have hI:(n.kind == 1)=false:=by simpa using h1);by_cases h3:n.kind=3
 · have hJ:(n.kind == 3)=true:=by simpa using h3
   have HW:Hid (weightL n=n.data.length):=Lib.hid (by simp[weightL,h3]);clear h1 h3;go_enter Tryz.func81,Tryz.ntmps81;go_wp2_with fail;go_ret;exact⟨ret_int (by rw[HW.out]),(Below.refl _ w).alloc (Nat.le_refl _) _⟩
 · have hJ:(n.kind == 3)=false:=by simpa using h3
   have HW:Hid (weightL n=0):=Lib.hid (by simp[weightL,h1,h3]);clear h1 h3;go_enter Tryz.func81,Tryz.ntmps81;go_wp2_with fail;go_ret;exact⟨ret_int (by rw[HW.out];rfl),(Below.refl _ w).alloc (Nat.le_refl _) _⟩
theorem within_in (l:List NodeL)(j:Int)(k:Nat)(h:k=l.length):withinB j 0 ((k:Int)-1)=inL l j:=by
 subst h;unfold withinB inL;congr 1;rw[Bool.eq_iff_iff,decide_eq_true_iff,decide_eq_true_iff];omega
set_option maxRecDepth 100000 in
theorem has_any (l:List NodeL)(ao:Option Addr)(n cap:Nat)(most room j:Int)(w:World)(hn:n=l.length)(hl:n≤65000):Calls Tryz.prog 86 #[.agg #[.slice ao n cap, .int .i64 most, .int .i64 room], .int .i64 j] w fun e w'=>e = .returned (.bool (inL l j))∧Below w.heap.size w w':=by
 subst hn;have HI:=Lib.hid (within_in l j _ rfl);go_enter Tryz.func86,Tryz.ntmps86;go_wp2_with fail;refine(within_any _ _ _ _).mono ?_;rintro e w1 ⟨rfl,rfl⟩;go_wp2_with fail;go_ret;exact⟨ret_bool HI.out,(Below.refl _ w).alloc (Nat.le_refl _) _⟩
theorem bytes_at {ms:List NodeM}(hs:Small (pl ms))(k:Nat)(h:k<ms.length):bytesL ((pl ms).take k)≤220000∧bytesL ((pl ms).take (k+1))=bytesL ((pl ms).take k)+weightL ((pl ms)[k]'(by rw[pl_len];exact h))∧weightL ((pl ms)[k]'(by rw[pl_len];exact h))≤2000 :=
 ⟨bytes_take_le hs k,bytes_succ (pl ms) k (by rw[pl_len];exact h),weight_le (hs.2 _ (List.getElem_mem _))⟩
set_option maxRecDepth 100000 in
set_option maxHeartbeats 1000000 in
theorem rbytes_any (v:Value)(ms:List NodeM)(most room:Int)(w:World)(hv:RdM w.heap.size v ms w)(hsm:Small (pl ms)) :
 Calls Tryz.prog 35 #[.agg #[v, .int .i64 most, .int .i64 room]] w fun e w'=>e = .returned (.int .i64 (bytesL (pl ms)))∧Below w.heap.size w w':=by
 obtain⟨ao,cap,rfl,_,_⟩:=rdm_form hv;(have hl:ms.length≤110:=by have:=hsm.1;rwa [pl_len]at this);have HS:=Lib.hid hsm;have HV:=Lib.hid hv;clear hv hsm;go_enter Tryz.func35,Tryz.ntmps35;go_wp2_with fail;have hb0:Below w.heap.size w (w.alloc (.cells #[.slice ao ms.length cap, .int .i64 most, .int .i64 room] 48)):=(Below.refl _ w).alloc (Nat.le_refl _) _;have hbF:=heap_alloc_new w (.cells #[.slice ao ms.length cap, .int .i64 most, .int .i64 room] 48);(have hsz:w.heap.size<(w.alloc (.cells #[.slice ao ms.length cap, .int .i64 most, .int .i64 room] 48)).heap.size:=by simp);generalize w.alloc (.cells #[.slice ao ms.length cap, .int .i64 most, .int .i64 room] 48)=W0 at *;go_loopw [3,4] (fun z i wr=>∃k:Nat,i = .int .i64 k∧k≤ms.length∧z = .int .i64 (bytesL ((pl ms).take k))∧Below W0.heap.size W0 wr) (fun _ i _=>ms.length-(intOf i).toNat)
 case atStart=>exact⟨0,rfl,Nat.zero_le _,rfl,Below.refl _ _⟩
 case round =>
  obtain⟨k,rfl,hk,rfl,hBr⟩:=hrel;have sB:=hBr.size;(have d0:wr.cell? ⟨w.heap.size,0,none⟩=some (.slice ao ms.length cap):=by rw[Lib.cell_of_heap ((hBr.block _ hsz).trans hbF)];rfl);have hBw:Below w.heap.size w wr:=hb0.trans (hBr.mono (by omega));by_cases hlt:k<ms.length
  · obtain⟨b,off,n,aon,capn,rfl,hb,hn, -, -,c0,c1,c2,c3,c4,c5,c6,c7⟩:=node_at (HV.out.below hBw) k hlt
    obtain⟨hle,hs,hw⟩:=bytes_at HS.out k hlt;rw[hn]at hs hw;have HQ:=Lib.hid hs;clear hs hn;generalize bytesL ((pl ms).take k)=z at *;go_wp2_with fail;refine(weight_any n _ _).mono ?_;rintro e w1 ⟨rfl,hb2⟩;have hb3:=ret_tr hBr hb2;go_wp2_with fail;go_roundw
    case rel=>exact⟨k+1,by go_num,hlt,by rw[HQ.out];go_num,hb3⟩
    case measure=>simp[intOf];omega
  · have hke:k=ms.length:=by omega
    have HT:Hid ((pl ms).take k=pl ms):=Lib.hid (by rw[hke,←pl_len,List.take_length]);(have hI2:decide (k<ms.length)=false:=by simp;omega);clear hke hlt;go_wp2_with fail;go_ret;exact⟨ret_int (by rw[HT.out]),hBw⟩
end Go.Proofs.YtmiekcdkamgknaaGreatDoor
