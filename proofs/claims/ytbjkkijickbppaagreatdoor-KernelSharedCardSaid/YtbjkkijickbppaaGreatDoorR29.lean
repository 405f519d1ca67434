import Derived.Test.YtbjkkijickbppaaGreatDoorR28
import Derived.Test.YtbjkkijickbppaaGreatDoorR19
namespace Go.Proofs.YtbjkkijickbppaaGreatDoor
theorem tune_rig {l:List NodeL}(h:Rig l){i:Nat}(hik:(nd l i).kind≠0){n:NodeL}(hk:n.kind=(nd l i).kind)(hu:n.up=(nd l i).up)(hl:n.links=(nd l i).links)(hn:n.names=(nd l i).names)(hloc:LocOk n)(ho:i≠0→cnt l i=0→1≤n.opn):Rig (l.set i n):=by
 have hlti:i<l.length:=nd_kind hik;have hnd:=nd_set hlti n
 have hcs : ∀j:Int,cnt (l.set i n) j=cnt l j:=fun j=>by
  have:=cnt_set hlti n j;rw[hn]at this;omega
 have hkin:=nd_map_set hlti n hk hu;generalize l.set i n=l1 at *
 have hsame : ∀j,(nd l1 j).names=(nd l j).names∧(nd l1 j).links=(nd l j).links:=fun j=>by
  rw[hnd];split
  · rename_i e;subst e;exact⟨hn,hl⟩
  · exact⟨rfl,rfl⟩
 refine⟨⟨(hkin 0).1.trans h.root.1,(hkin 0).2.trans h.root.2.1,(hsame 0).2.trans h.root.2.2⟩,fun j hj=> ?_,fun j hj=> ?_,fun j e he=> ?_,fun j hj0 _ hjk=> ?_⟩
 · rw[(hkin j).1]at hj
   rw[hnd,if_neg (by rintro rfl;exact hik hj)];exact h.zero j hj
 · rw[(hkin j).1]at hj
   rw[hnd];split
   · exact hloc
   · exact h.loc j hj
 · rw[(hsame j).1]at he
   obtain⟨k,a,b,c⟩:=h.nam j e he;exact⟨k,a,b,by rw[(hkin k).1];exact c⟩
 · rw[(hkin j).1]at hjk
   (have hN:=(h.nmd j hj0 (fun h=>h) hjk).same (hcs j) (fun _ u hu=>by rw[(hsame u).1];exact hu) fun _ hr=>hr.kin hkin);obtain⟨a,b,c⟩:=hN;refine⟨(hsame j).2.trans a,fun hz=> ?_,fun h2=> ?_⟩
   · rw[hnd]
     split
     · rename_i e
       subst e;exact ho hj0 (by rw[←hcs];exact hz)
     · exact b hz
   · rw[(hkin j).1]at h2
     obtain⟨c1,c2⟩:=c h2;refine⟨fun hz=> ?_,fun hz=> ?_⟩
     · rw[(hsame j).1,(hkin j).2];exact c1 hz
     · rw[(hkin j).2];exact c2 hz
theorem loc_opn {n:NodeL}(h:LocOk n)(b:Int)(hb:0≤n.opn+b):LocOk (opnN n b):=by
 obtain⟨a,b',c,d⟩:=h;unfold plainB at a;simp only[Bool.and_eq_true,decide_eq_true_iff]at a;refine⟨?_,b',c,d⟩;unfold plainB;simp only[Bool.and_eq_true,decide_eq_true_iff];exact⟨a.1,hb⟩
theorem loc_data {n:NodeL}(h:LocOk n)(h1:n.kind=1)(d:Nm):LocOk (dataN n d):=by
 obtain⟨a,b,c,e⟩:=h;exact⟨a,b,fun h2=>absurd (h1.symm.trans h2) (by decide),e⟩
def atN (i:Nat)(n:NodeL)(b:Int):NodeL:=if i≠0∧n.links≤0∧n.opn+b≤0 then zeroN else opnN n b
theorem opened_eq {l:List NodeL}{i:Nat}(hik:(nd l i).kind≠0)(b:Int):openedL l (i:Int) b=l.set i (atN i (nd l i) b):=by
 have hlt:i<l.length:=nd_kind hik;unfold openedL settleL;rw[nodeL_nd hik,setL_nat hlt];(have hnd:nd (l.set i (opnN (nd l i) b)) i=opnN (nd l i) b:=by rw[nd_set hlt,if_pos rfl]);(have hk:(nd (l.set i (opnN (nd l i) b)) i).kind≠0:=by rw[hnd];exact hik);rw[nodeL_nd hk,hnd,(got_nd _ i).2 hk];unfold atN;by_cases h0:i≠0∧(nd l i).links≤0∧(nd l i).opn+b≤0
 · rw[if_pos h0,if_pos ⟨rfl,by omega,h0.2.1,h0.2.2⟩,setL_nat (by rw[List.length_set];exact hlt),List.set_set]
 · rw[if_neg h0,if_neg fun⟨_,h1,h2,h3⟩=>h0 ⟨by omega,h2,h3⟩]
theorem opened_nd {l:List NodeL}{i:Nat}(hik:(nd l i).kind≠0)(b:Int)(j:Nat):nd (openedL l (i:Int) b) j=if j=i then atN i (nd l i) b else nd l j:=by
 rw[opened_eq hik,nd_set (nd_kind hik)]
theorem opened_len {l:List NodeL}{i:Nat}(hik:(nd l i).kind≠0)(b:Int):(openedL l (i:Int) b).length=l.length:=by rw[opened_eq hik,List.length_set]
theorem Rig.links {l:List NodeL}(h:Rig l){i:Nat}(hi0:i≠0)(hik:(nd l i).kind≠0):(nd l i).links=cnt l i∧(cnt l i=0→1≤(nd l i).opn):=by
 obtain⟨a,b,_⟩:=h.nmd i hi0 (fun h=>h) hik;exact⟨a,b⟩
theorem free_rig {l:List NodeL}(h:Rig l){i:Nat}(hi0:i≠0)(hik:(nd l i).kind≠0)(hc:cnt l i=0):Rig (l.set i zeroN):=by
 have hlt:i<l.length:=nd_kind hik
 have hnm:(nd l i).names = []:=by
  by_cases h2:(nd l i).kind=2
  · exact((h.nmd i hi0 (fun h=>h) hik).2.2 h2).1 hc |>.1
  · exact(h.loc i hik).2.1 h2
 have hz : ∀k,cntN (nd l k).names i=0:=fun k=>by have:=cnt_ge (l:=l) k i;omega
 have hup : ∀k:Nat,k≠0→(nd l k).kind=2→(nd l k).up≠(i:Int):=fun k hk0 hk2 e=>by
  obtain⟨c1,c2⟩:=(h.nmd k hk0 (fun h=>h) (by rw[hk2];decide)).2.2 hk2;by_cases hck:cnt l k=0
  · have:=(c1 hck).2
    omega
  · obtain⟨_,⟨u,hu,hpos⟩,_⟩:=c2 hck
    rw[e]at hu;(have:u=i:=by omega);subst this;rw[hnm]at hpos;exact absurd hpos (Nat.lt_irrefl 0)
 have hR : ∀k:Nat,k≠i→Rooted l k→Rooted (l.set i zeroN) k:=fun k hki hr=>by
  refine Rooted.mono (fun k=>k≠i) (fun k hk h2=> ?_) hr (fun j hj _=>by omega);rw[nd_set hlt,if_neg hk];refine⟨h2,rfl,fun u hu _ e=> ?_⟩;subst e;by_cases hk0:k=0
  · subst hk0
    have:=h.root.2.1;omega
  · exact hup k hk0 h2 hu
 have h1:=(Rig.all h (fun k=>k=i)).node (y:=i) rfl hi0 hlt zeroN hnm.symm (fun hne=>absurd rfl hne) (fun _=>rfl) (fun _=>hz) (fun k _ hE _ hr=>hR k hE hr);(refine h1.less fun k hE=> .inr fun _ hne=> ?_);rw[hE,nd_set hlt,if_pos rfl]at hne;exact absurd rfl hne
theorem opened_rig {l:List NodeL}(h:Rig l){i:Nat}(hik:(nd l i).kind≠0){b:Int}(hb:0≤(nd l i).opn+b):Rig (openedL l (i:Int) b)∧bytesL (openedL l (i:Int) b)≤bytesL l:=by
 have hlt:i<l.length:=nd_kind hik;rw[opened_eq hik];have hbs:=bytes_set hlt (atN i (nd l i) b)
 have hw:weightL (atN i (nd l i) b)≤weightL (nd l i):=by
  unfold atN;split
  · exact Nat.zero_le _
  · exact Nat.le_refl _
 refine⟨?_,by omega⟩;unfold atN;split
 · rename_i hc
   obtain⟨hi0,hlk,_⟩:=hc;have:=(h.links hi0 hik).1;exact free_rig h hi0 hik (by omega)
 · rename_i hc
   (refine tune_rig h hik rfl rfl rfl rfl (loc_opn (h.loc i hik) b hb) fun hi0 hc0=> ?_);have:=(h.links hi0 hik).1;show 1≤(nd l i).opn+b;rcases Int.lt_or_le 0 ((nd l i).opn+b)with h1 | h1
   · omega
   · exact absurd ⟨hi0,by omega,h1⟩ hc
theorem opened_right {l:List NodeL}{most room:Int}(h:rightR l most room=true){i:Nat}(hik:(nd l i).kind≠0){b:Int}(hb:0≤(nd l i).opn+b):rightR (openedL l (i:Int) b) most room=true:=by
 obtain⟨hR,_⟩:=Rig.of (right_RP h);obtain⟨h1,h2⟩:=opened_rig hR hik hb;exact right_back h h1 (opened_len hik b) h2
theorem data_rig {l:List NodeL}{most room:Int}(h:rightR l most room=true){i:Nat}(h1:(nd l i).kind=1){d:Nm}(hd:(bytesL l:Int)+d.length-(nd l i).data.length≤room):rightR (l.set i (dataN (nd l i) d)) most room=true:=by
 (have hik:(nd l i).kind≠0:=by rw[h1];decide);obtain⟨hR,h0,hl,hb⟩:=(right_iff l most room).1 h;have hlt:i<l.length:=nd_kind hik;refine(right_iff _ _ _).2 ⟨tune_rig hR hik rfl rfl rfl rfl (loc_data (hR.loc i hik) h1 d) fun hi0 hc=>(hR.links hi0 hik).2 hc,by rw[List.length_set];exact h0,by rw[List.length_set];exact hl,?_⟩;have hbs:=bytes_set hlt (dataN (nd l i) d);(have w1:weightL (dataN (nd l i) d)=d.length:=by unfold weightL;rw[if_pos (Or.inl (show(dataN (nd l i) d).kind=1 from h1))];rfl);(have w2:weightL (nd l i)=(nd l i).data.length:=by unfold weightL;rw[if_pos (Or.inl h1)]);omega
theorem getL_nodeL (l:List NodeL)(i:Int):getL l i=nodeL l i:=by unfold getL nodeL;cases gotB l i<;>rfl
theorem kept_right {l:List NodeL}{most room i:Int}(h:rightR l most room=true)(hf:fileE l i=0)(d:Nm):rightR (keptL l room i d).1 most room=true:=by
 unfold keptL;split
 · exact h
 · rename_i hc
   obtain⟨hg,hk⟩:=file_got hf;obtain⟨j,rfl,hlt,hjk⟩:=got_nat hg;rw[getL_nodeL,nodeL_nd hjk]at hk hc ⊢;rw[setL_nat hlt];refine data_rig h hk ?_;obtain⟨_,_,_,hb⟩:=(right_iff l most room).1 h;omega
theorem write_right {l:List NodeL}{most room:Int}(h:rightR l most room=true)(i a:Int)(s:Nm):rightR (writeL l room i a s).1 most room=true:=by
 unfold writeL;split
 · exact h
 · rename_i hf
   repeat (split;exact h)
   exact kept_right h (Decidable.of_not_not hf) _
theorem cut_right {l:List NodeL}{most room:Int}(h:rightR l most room=true)(i n:Int):rightR (cutL l room i n).1 most room=true:=by
 unfold cutL;split
 · exact h
 · rename_i hf
   split
   · exact h
   · split
     · exact kept_right h (Decidable.of_not_not hf) _
     · split
       · exact h
       · exact kept_right h (Decidable.of_not_not hf) _
def DataO (l l':List NodeL):Prop:=l'=l∨∃(i:Nat) (d:Nm),(nd l i).kind=1∧l'=l.set i (dataN (nd l i) d)
theorem kept_O {l:List NodeL}{room i:Int}(hf:fileE l i=0)(d:Nm):DataO l (keptL l room i d).1:=by
 unfold keptL;split
 · exact .inl rfl
 · obtain⟨hg,hk⟩:=file_got hf
   obtain⟨j,rfl,hlt,hjk⟩:=got_nat hg;rw[getL_nodeL,nodeL_nd hjk]at hk ⊢;rw[setL_nat hlt];exact .inr ⟨j,d,hk,rfl⟩
theorem write_O (l:List NodeL)(room i a:Int)(s:Nm):DataO l (writeL l room i a s).1:=by
 unfold writeL;split
 · exact .inl rfl
 · rename_i hf
   repeat (split;exact .inl rfl)
   exact kept_O (Decidable.of_not_not hf) _
theorem cut_O (l:List NodeL)(room i n:Int):DataO l (cutL l room i n).1:=by
 unfold cutL;split
 · exact .inl rfl
 · rename_i hf
   split
   · exact .inl rfl
   · split
     · exact kept_O (Decidable.of_not_not hf) _
     · split
       · exact .inl rfl
       · exact kept_O (Decidable.of_not_not hf) _
theorem DataO.nd {l l':List NodeL}(h:DataO l l')(j:Nat):(nd l' j).kind=(nd l j).kind∧(nd l' j).opn=(nd l j).opn∧(nd l' j).links=(nd l j).links∧(nd l' j).names=(nd l j).names∧(nd l' j).up=(nd l j).up∧(nd l' j).mode=(nd l j).mode∧(nd l' j).owner=(nd l j).owner∧((nd l j).kind≠1→(nd l' j).data=(nd l j).data):=by
 rcases h with rfl | ⟨i,d,hk,rfl⟩
 · exact⟨rfl,rfl,rfl,rfl,rfl,rfl,rfl,fun _=>rfl⟩
 · rw[nd_set (nd_kind (by rw[hk];decide))]
   split
   · rename_i e;subst e;exact⟨rfl,rfl,rfl,rfl,rfl,rfl,rfl,fun h=>absurd hk h⟩
   · exact⟨rfl,rfl,rfl,rfl,rfl,rfl,rfl,fun _=>rfl⟩
theorem DataO.len {l l':List NodeL}(h:DataO l l'):l'.length=l.length:=by
 rcases h with rfl | ⟨i,d,hk,rfl⟩
 · rfl
 · rw[List.length_set]
end Go.Proofs.YtbjkkijickbppaaGreatDoor
namespace Go.Proofs.YtbjkkijickbppaaGreatDoor
theorem countP_set1 {α:Type}(l:List α)(q:α→Bool)(k:Nat)(h:k<l.length)(v:α):(l.set k v).countP q+(if q l[k]=true then 1 else 0)=l.countP q+(if q v=true then 1 else 0):=by
 induction l generalizing k with
 | nil=>exact absurd h (Nat.not_lt_zero _)
 | cons a l ih =>
    cases k with
    | zero=>simp only[List.set_cons_zero,List.countP_cons,List.getElem_cons_zero];omega
    | succ k =>
       have:=ih k (by simpa using h);simp only[List.set_cons_succ,List.countP_cons,List.getElem_cons_succ];omega
def opB (j:Int)(d:DescL):Bool:=decide (0<d.refs) && decide (d.ino=j)
theorem opB_iff {j:Int}{d:DescL}:opB j d=true↔0<d.refs∧d.ino=j:=by unfold opB;simp only[Bool.and_eq_true,decide_eq_true_iff]
theorem opensD_set {ds:List DescL}{i:Nat}(hi:i<ds.length)(d:DescL)(j:Int):opensD (ds.set i d) j+(if 0<(ds[i]).refs∧(ds[i]).ino=j then 1 else 0)=opensD ds j+(if 0<d.refs∧d.ino=j then 1 else 0):=by
 have:=countP_set1 ds (opB j) i hi d;simp only[opB_iff]at this;exact this
theorem opensD_same {ds:List DescL}{i:Nat}(hi:i<ds.length){d:DescL}(h1:0<d.refs↔0<(ds[i]).refs)(h2:d.ino=(ds[i]).ino)(j:Int):opensD (ds.set i d) j=opensD ds j:=by
 have:=opensD_set hi d j;rw[h2]at this;simp only[h1]at this;omega
theorem opens_setT (t:TabL)(i:Int)(x:DescL)(hx:x.ino=(descT t i).ino)(j:Int):opensD (setT t i x).ds j=opensD t.ds j:=by
 unfold setT;split
 · rfl
 · rename_i h
   obtain⟨a,rfl⟩:=Int.eq_ofNat_of_zero_le (show 0≤i by omega);(have ha:a<t.ds.length:=by omega);rw[desc_at ha]at hx ⊢;rw[Int.toNat_natCast];exact opensD_same ha (d:= { x with refs:=(t.ds[a]).refs}) Iff.rfl hx j
theorem fs_setT (t:TabL)(i:Int)(x:DescL):(setT t i x).fs=t.fs:=by unfold setT;split<;>rfl
theorem opens_lock (t:TabL)(i kind:Int)(j:Int):opensD (lockT t i kind).1.ds j=opensD t.ds j∧(lockT t i kind).1.fs=t.fs:=by
 rcases lock_cases t i kind with⟨h,_⟩ | ⟨a,ha,_,_,_,_,e⟩
 · rw[h];exact⟨rfl,rfl⟩
 · rw[e];exact⟨opensD_same ha (d:=withL t.ds[a] kind) Iff.rfl rfl j,rfl⟩
theorem has_desc {t:TabL}(hr:RightT t){p fd:Int}(h:hasT t p fd=true) : ∃i:Nat,∃hi:i<t.ds.length,placeT t p fd=i∧foundT t p fd=t.ds[i]∧1≤(t.ds[i]).refs:=by
 obtain⟨a,m,rfl,rfl,ha,hm,h0⟩:=has_T h;obtain⟨i,hi,hil,hrf⟩:=place_T hr ha hm h0;obtain⟨g1,g2⟩:=found_at h hi hil;have:=(desc_right hr hil).1;exact⟨i,hil,g1,g2,by omega⟩
theorem opens_dup {t:TabL}(hr:RightT t){p fd:Int}(h:(dupT t p fd).2.2=0)(j:Int):opensD (dupT t p fd).1.ds j=opensD t.ds j:=by
 obtain⟨h1,a,rfl,ha,hf,e⟩:=dup_ok h;obtain⟨i,hi,e1,e2,h2⟩:=has_desc hr h1;rw[e];show opensD (t.ds.set _ _) j=_;rw[e1,e2,Int.toNat_natCast];exact opensD_same hi (d:= { t.ds[i]with refs:=(t.ds[i]).refs+1}) (by show 0<(t.ds[i]).refs+1↔_;omega) rfl j
theorem opens_open {t:TabL}{p:Int}{x:DescL}(h:(openT t p x).2.2=0)(j:Int):opensD (openT t p x).1.ds j=opensD t.ds j+if x.ino=j then 1 else 0:=by
 obtain⟨a,rfl,ha,hf,e⟩:=open_ok h;rw[e];show opensD (putD1 t.ds (freeD t.ds) { x with refs:=1}) j=_;unfold putD1;split
 · unfold opensD
   rw[List.countP_append,List.countP_singleton];by_cases hj:x.ino=j
   · rw[if_pos hj,if_pos (by rw[decide_eq_true (show({ x with refs:=1}:DescL).ino=j from hj)];rfl)]
   · rw[if_neg hj,if_neg (by rw[decide_eq_false (show ¬({ x with refs:=1}:DescL).ino=j from hj)];simp)]
 · rename_i hne
   (have hlt:freeD t.ds<t.ds.length:=by have:=free_le t.ds;omega);have h1:=opensD_set hlt { x with refs:=1} j;have h2:=free_lt hlt;have h3:((0:Int)<({ x with refs:=1}:DescL).refs∧({ x with refs:=1}:DescL).ino=j)↔x.ino=j:=⟨fun h=>h.2,fun h=>⟨(by decide:(0:Int)<1),h⟩⟩;rw[if_neg (by omega)]at h1;simp only[h3]at h1;omega
theorem count_row {t t':TabL}{q:Int}(h1:inT t' q=inT t q)(h2:rowT t' q=rowT t q):countT t' q=countT t q:=by unfold countT;rw[h1,h2]
theorem row_far {t:TabL}{ds':List DescL}{a k:Nat}{v q:Int}(hne:(a:Int)≠q)(hq:0≤q):rowT ⟨ds',putF t.fs a k v⟩ q=rowT t q:=by
 obtain⟨b,rfl⟩:=Int.eq_ofNat_of_zero_le hq;exact row_other (by omega)
theorem other_dupT {t:TabL}{p q fd:Int}(h:(dupT t p fd).2.2=0)(hne:p≠q)(hq:0≤q):countT (dupT t p fd).1 q=countT t q∧(dupT t p fd).1.fs.length=t.fs.length:=by
 obtain⟨_,a,rfl,ha,hf,e⟩:=dup_ok h;rw[e];exact⟨count_row in_put (row_far hne hq),putF_len _ _ _ _⟩
theorem other_openT {t:TabL}{p q:Int}{x:DescL}(h:(openT t p x).2.2=0)(hne:p≠q)(hq:0≤q):countT (openT t p x).1 q=countT t q∧(openT t p x).1.fs.length=t.fs.length:=by
 obtain⟨a,rfl,ha,hf,e⟩:=open_ok h;rw[e];exact⟨count_row in_put (row_far hne hq),putF_len _ _ _ _⟩
theorem open_goes {t:TabL}(hr:RightT t){p:Int}(hp:inT t p=true)(hc:countT t p≠8)(x:DescL):(openT t p x).2.2=0:=by
 unfold openT;obtain⟨a,rfl,ha⟩:=in_T hp;have h8:=(row_right hr ha).1;rw[if_neg (by rw[hp];decide),if_neg];intro hle;refine hc ?_;unfold countT countR;rw[if_pos hp,←h8,List.countP_eq_length];intro v hv;obtain⟨m,hm,rfl⟩:=List.mem_iff_getElem.1 hv;obtain⟨_,h0⟩:=first_min (r:=rowT t (a:Int)) (k:=m) (by omega);exact decide_eq_true h0
end Go.Proofs.YtbjkkijickbppaaGreatDoor
namespace Go.Proofs.YtbjkkijickbppaaGreatDoor
structure OpnW (l:List NodeL) (most room:Int) (f:Int→Nat):Prop where
 disk:rightR l most room=true
 got : ∀j:Int,0<f j→gotB l j=true
 opn : ∀j:Nat,(nd l j).kind≠0→(nd l j).opn=f j
theorem atN_kind {i:Nat}{n:NodeL}{b:Int}(h:0<n.opn+b):(atN i n b).kind=n.kind∧(atN i n b).opn=n.opn+b:=by
 unfold atN;rw[if_neg (by omega)];exact⟨rfl,rfl⟩
theorem OpnW.move {l:List NodeL}{most room:Int}{f g:Int→Nat}(h:OpnW l most room f){i:Nat}(hik:(nd l i).kind≠0){b:Int}(hg : ∀j:Int,(g j:Int)=f j+if j=i then b else 0) :
 OpnW (openedL l (i:Int) b) most room g∧∀j:Nat,(nd l j).kind≠0→0<g j→(nd (openedL l (i:Int) b) j).kind=(nd l j).kind:=by
 have hi:=h.opn i hik;have hgi:=hg i;rw[if_pos rfl]at hgi
 have hkind : ∀j:Nat,(nd l j).kind≠0→0<g j→(nd (openedL l (i:Int) b) j).kind=(nd l j).kind:=fun j hj hpos=>by
  rw[opened_nd hik];split
  · rename_i e
    subst e;exact(atN_kind (by omega)).1
  · rfl
 refine⟨⟨opened_right h.disk hik (by omega),fun j hj=> ?_,fun j hj=> ?_⟩,hkind⟩
 · have hold:gotB l j=true:=by
    by_cases e:j=i
    · rw[e];exact(got_nd l i).2 hik
    · refine h.got j ?_
      have:=hg j;rw[if_neg e]at this;omega
   obtain⟨n,rfl,_,hn⟩:=got_nat hold;rw[got_nd,hkind n hn hj];exact hn
 · rw[opened_nd hik]at hj ⊢
   split
   · rename_i e
     subst e;rw[if_pos rfl]at hj;unfold atN at hj ⊢;split
     · rename_i hc;rw[if_pos hc]at hj;exact absurd rfl hj
     · show(nd l j).opn+b=_
       omega
   · rename_i e
     rw[if_neg e]at hj;have:=hg j;rw[if_neg (by omega)]at this;rw[h.opn j hj];omega
theorem RigK.w {k:KernL}(h:RigK k):OpnW k.l k.most k.room (opensN k):=by
 refine⟨h.disk,fun j hj=> ?_,h.opn⟩;unfold opensN at hj;by_cases hd:0<opensD k.t.ds j
 · obtain⟨d,hdm,hr,rfl⟩:=opensD_pos.1 hd
   exact h.ino d hdm hr
 · obtain⟨x,hx,hl,rfl⟩:=opensP_pos.1 (show 0<opensP k.ps j by omega)
   obtain⟨p,hp,rfl⟩:=List.mem_iff_getElem.1 hx;obtain⟨e1,e2⟩:=live_at hp;obtain⟨n,hn,h2,_⟩:=h.cwd_open (p:=(p:Int)) (by rw[e1];exact hl);rw[←e2,hn,got_nd,h2];decide
theorem rig_w {k:KernL}(w:OpnW k.l k.most k.room (opensN k))(tab:RightT k.t)(eight:k.t.fs.length=8)(procs:k.ps.length≤8)(idle : ∀p:Nat,p<8→liveB k.ps p=false→countT k.t p=0)
 (cwd : ∀p:Nat,liveB k.ps p=true→(nodeL k.l (procL k.ps p).cwd).kind=2∧0≤(procL k.ps p).umask∧(procL k.ps p).umask≤63):RigK k :=
  ⟨w.disk,tab,eight,procs,idle,cwd,fun d hd hr=>w.got _ (by have:=opensD_pos.2 ⟨d,hd,hr,rfl⟩;unfold opensN;omega),w.opn⟩
theorem live_pos {k:KernL}{p:Int}(hl:liveB k.ps p=true){j:Int}(hj:(procL k.ps p).cwd=j):0<opensP k.ps j:=by
 obtain⟨a,ha,rfl,e,h1⟩:=live_in hl;exact opensP_pos.2 ⟨k.ps[a],List.getElem_mem ha,h1,by rw[←e];exact hj⟩
theorem right_tabs {k:KernL}(h:RigK k){t':TabL}(hr:RightT t')(h8:t'.fs.length=8)(hi : ∀q:Nat,q<8→liveB k.ps q=false→countT t' q=0)(ho : ∀j:Int,opensD t'.ds j=opensD k.t.ds j):RigK (withT k t'):=by
 (have e:opensN (withT k t')=opensN k:=funext fun j=>by unfold opensN;rw[show(withT k t').t.ds=t'.ds from rfl,ho];rfl);refine rig_w ?_ hr h8 h.procs hi h.cwd;rw[e];exact h.w
theorem RigK.in_live {k:KernL}(h:RigK k){p:Int}(hl:liveB k.ps p=true):inT k.t p=true:=by
 obtain⟨a,ha,rfl,_,_⟩:=live_in hl;exact in_natT (by have:=h.procs;have:=h.eight;omega)
theorem live_ne {ps:List ProcL}{p:Int}{q:Nat}(h:liveB ps p=true)(h2:liveB ps (q:Int)=false):p≠(q:Int):=by
 rintro rfl;rw[h]at h2
 cases h2
theorem right_openAt {k:KernL}(h:RigK k){p:Int}(hl:liveB k.ps p=true)(hc:countT k.t p≠8){i:Nat}(hik:(nd k.l i).kind≠0){x:DescL}(hx:x.ino=i):RigK ⟨openedL k.l (i:Int) 1,k.most,k.room,(openT k.t p x).1,k.ps⟩:=by
 have h0:=open_goes h.tab (h.in_live hl) hc x
 obtain⟨w,hk⟩:=h.w.move (g:=opensN ⟨openedL k.l (i:Int) 1,k.most,k.room,(openT k.t p x).1,k.ps⟩) hik (b:=1) (fun j=>by
  unfold opensN;show((opensD (openT k.t p x).1.ds j+opensP k.ps j:Nat):Int)=_;rw[opens_open h0,hx];by_cases e:j=(i:Int)
  · rw[if_pos e.symm,if_pos e];omega
  · rw[if_neg (Ne.symm e),if_neg e];omega)
 refine rig_w w (right_open h.tab p x) ?_ h.procs (fun q hq hlq=> ?_) (fun q hlq=> ?_)
 · exact((other_openT h0 (q:=p+1) (by omega) (by obtain⟨a,_,rfl,_⟩:=live_in hl;omega)).2).trans h.eight
 · exact((other_openT h0 (live_ne hl hlq) (by omega)).1).trans (h.idle q hq hlq)
 · obtain⟨j,hj,h2,_⟩:=h.cwd_open hlq
   refine⟨?_,(h.cwd q hlq).2⟩;have:=hk j (by rw[h2];decide) (by have h9:=live_pos (k:=k) hlq hj;unfold opensN;show 0<_+opensP k.ps (j:Int);omega);show(nodeL (openedL k.l (i:Int) 1) (procL k.ps q).cwd).kind=2;rw[hj,nodeL_nd (by rw[this,h2];decide),this,h2]
theorem right_setT {k:KernL}(h:RigK k)(i:Int){x:DescL}(hx:x.ino=(descT k.t i).ino):RigK (withT k (setT k.t i x)) :=
 right_tabs h (right_set h.tab i x) (by rw[fs_setT];exact h.eight) (fun q hq hl=>by rw[count_row (t:=k.t) (by unfold inT;rw[fs_setT]) (by unfold rowT;rw[fs_setT])];exact h.idle q hq hl) fun j=>opens_setT _ _ _ hx j
theorem data_keep {l l':List NodeL}(h:DataO l l') : ∀j:Nat,((nd l j).kind=0→(nd l' j).kind=0)∧(nd l' j).kind=(nd l j).kind∧(nd l' j).opn=(nd l j).opn:=fun j=>by
 have:=h.nd j;exact⟨fun h=>this.1.trans h,this.1,this.2.1⟩
theorem right_data {k:KernL}(h:RigK k){l':List NodeL}(hr:rightR l' k.most k.room=true)(hd:DataO k.l l'):RigK (withD k l'):=by
 have hk:=data_keep hd
 have hn : ∀i:Int,gotB k.l i=true→gotB l' i=true∧(nodeL l' i).kind=(nodeL k.l i).kind:=fun i hi=>by
  obtain⟨j,rfl,_,hj⟩:=got_nat hi;have h1:=(hk j).2.1;(have h2:(nd l' j).kind≠0:=by rw[h1];exact hj);exact⟨(got_nd l' j).2 h2,by rw[nodeL_nd h2,nodeL_nd hj,h1]⟩
 refine⟨hr,h.tab,h.eight,h.procs,h.idle,fun p hl=> ?_,fun d hd hd0=>(hn _ (h.ino d hd hd0)).1,fun j hj=> ?_⟩
 · obtain⟨j,hj,h2,_⟩:=h.cwd_open hl
   refine⟨?_,(h.cwd p hl).2⟩;show(nodeL l' (procL k.ps p).cwd).kind=2;rw[(hn _ (by rw[hj,got_nd,h2];decide)).2];exact(h.cwd p hl).1
 · have hj:(nd l' j).kind≠0:=hj
   rw[(hk j).2.1]at hj;show(nd l' j).opn=_;rw[(hk j).2.2];exact h.opn j hj
theorem right_desc {k:KernL}(h:RigK k){p:Int}(hl:liveB k.ps p=true)(c:CallL):RigK (descK k p c).1:=by
 unfold descK;split
 · exact h
 · rename_i hb
   have hh:hasT k.t p c.fd=true:=by
    cases e:hasT k.t p c.fd with
    | true=>rfl
    | false=>exact absurd (by unfold badB;rw[e];rfl) hb
   obtain⟨a,ha,e1,e2,h2⟩:=has_desc h.tab hh;(have hx : ∀n,(posD (foundT k.t p c.fd) n).ino=(descT k.t (placeT k.t p c.fd)).ino:=fun n=>by rw[e1,desc_at ha,e2];rfl);split
   · unfold readK
     split
     · exact h
     · exact right_setT h _ (hx _)
   · split
     · unfold writeK
       split
       · exact h
       · exact right_setT (right_data h (write_right h.disk _ _ _) (write_O _ _ _ _ _)) _ (hx _)
     · split
       · unfold listK
         split<;>exact h
       · split
         · unfold flockK
           split
           · exact h
           · refine right_tabs h (right_lock h.tab _ _) (by rw[(opens_lock _ _ _ 0).2];exact h.eight) (fun q hq hlq=> ?_) fun j=>(opens_lock _ _ _ j).1
             rw[count_row (t:=k.t) (by unfold inT;rw[(opens_lock _ _ _ 0).2]) (by unfold rowT;rw[(opens_lock _ _ _ 0).2])];exact h.idle q hq hlq
         · unfold dupK
           split
           · exact h
           · rename_i h0
             have h0:(dupT k.t p c.fd).2.2=0:=Decidable.of_not_not h0;exact right_tabs h (right_dup h.tab _ _) (((other_dupT h0 (q:=p+1) (by omega) (by obtain⟨a,_,rfl,_⟩:=live_in hl;omega)).2).trans h.eight) (fun q hq hlq=>((other_dupT h0 (live_ne hl hlq) (by omega)).1).trans (h.idle q hq hlq)) fun j=>opens_dup h.tab h0 j
theorem mkfile_ent {l:List NodeL}{most room who fr:Int}(h:rightR l most room=true){path:Str}{mode:Int}(hE:(mkfileL l most room who fr path mode).2.2=0) :
 ∃(s:SpotL) (d p:Nat),walkL l who fr path false=(s,0)∧Entered l (mkfileL l most room who fr path mode).1 who fr path s d p (ownN (fileN mode) who)∧(mkfileL l most room who fr path mode).2.1=p:=by
 unfold mkfileL at hE ⊢;split at hE
 · rename_i hw;exact absurd hE hw
 · rename_i hw
   have hw:=Decidable.of_not_not hw;split at hE
   · cases hE
   · rename_i hs
     rw[if_neg (by rw[hw];decide),if_neg hs]
     have hn: ¬0≤(walkL l who fr path false).1.ino:=fun h0=>by
      unfold enterL at hE;rw[if_pos (by unfold freeE;rw[if_pos h0];decide)]at hE;unfold freeE at hE;rw[if_pos h0]at hE
      cases hE
     (have hsl:(walkL l who fr path false).1.slash=true→(fileN mode).kind=2:=fun h1=>absurd ⟨h1,by omega⟩ hs);obtain⟨d,p,hent,hp⟩:=entered_of h (s:=(walkL l who fr path false).1) (by rw[←hw]) (n:=fileN mode) (.inl rfl) (file_loc mode who) rfl (fun h=>by cases h) hsl hE;exact⟨_,d,p,by rw[←hw],hent,hp⟩
theorem mkfile_got {l:List NodeL}{most room who fr:Int}(h:rightR l most room=true){path:Str}{mode:Int}(hE:(mkfileL l most room who fr path mode).2.2=0) :
 ∃i:Nat,(mkfileL l most room who fr path mode).2.1=i∧(nd (mkfileL l most room who fr path mode).1 i).kind≠0:=by
 obtain⟨s,d,p,_,e,hp⟩:=mkfile_ent h hE;refine⟨p,hp,?_⟩;rw[e.nds,if_neg e.pd,if_pos rfl];exact(by decide:(1:Int)≠0)
theorem right_open1 {k:KernL}(h:RigK k){p:Int}(hl:liveB k.ps p=true)(hc:countT k.t p≠8)(fr:Int)(c:CallL):RigK (openFrom k p fr c).1:=by
 unfold openFrom;split
 · exact h
 · rename_i hw
   have hw:=Decidable.of_not_not hw;split
   · unfold openNew
     split
     · exact h
     · split
       · exact h
       · unfold openAt
         split
         · exact h
         · rename_i hE
           have hE:=Decidable.of_not_not hE;have hR:=right_keep h (right_mkfile h.disk (procL k.ps p).who fr c.path (maskI c.mode (procL k.ps p).umask)) (keep_mkfile h.rightP c.path _);obtain⟨i,hi,hik⟩:=mkfile_got h.disk hE;rw[hi];exact right_openAt hR hl hc hik rfl
   · rename_i hi
     unfold openOld openAt;split
     · exact h
     · have hg:gotB k.l (walkL k.l (procL k.ps p).who fr c.path (followB c.flags)).1.ino=true:=(walk_ino h.rightP _ _ _ _ hw).resolve_left (by omega)
       obtain⟨i,e,_,hik⟩:=got_nat hg;rw[e]
       have hO:DataO k.l (fitL k.l k.room (procL k.ps p).who i c.flags (onlyB c.flags)).1:=by
        unfold fitL;split
        · exact .inl rfl
        · split
          · exact cut_O _ _ _ _
          · exact .inl rfl
       have hF:rightR (fitL k.l k.room (procL k.ps p).who i c.flags (onlyB c.flags)).1 k.most k.room=true:=by
        unfold fitL;split
        · exact h.disk
        · split
          · exact cut_right h.disk _ _
          · exact h.disk
       exact right_openAt (right_data h hF hO) hl hc (by have e:=(hO.nd i).1;show(nd (fitL k.l k.room (procL k.ps p).who i c.flags (onlyB c.flags)).1 i).kind≠0;rw[e];exact hik) rfl
def Kd (n:Int):Prop:=n=3∨n=17
theorem right_do {k:KernL}(h:RigK k)(p:Int)(c:CallL)(hkd:Kd c.kind):RigK (doK k p c).1:=by
 unfold doK;split
 · exact h
 · rename_i hb
   have hl:liveB k.ps p=true:=by
    cases e:liveB k.ps p with
    | true=>rfl
    | false=>exact absurd (.inl e) hb
   split
   · unfold openK
     split;exact h;split;exact h;rename_i hc;split;exact h;exact right_open1 h hl hc _ _
   split;(exfalso;unfold Kd at hkd;omega);split;exact right_desc h hl c;split;(exfalso;unfold Kd at hkd;omega);split;(exfalso;unfold Kd at hkd;omega)
   (exfalso;unfold Kd at hkd;omega)
end Go.Proofs.YtbjkkijickbppaaGreatDoor
