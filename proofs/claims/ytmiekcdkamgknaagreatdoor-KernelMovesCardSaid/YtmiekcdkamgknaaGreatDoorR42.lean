import Derived.Test.YtmiekcdkamgknaaGreatDoorR37
import Derived.Test.YtmiekcdkamgknaaGreatDoorR24
import Derived.Test.YtmiekcdkamgknaaGreatDoorR35
import Derived.Test.YtmiekcdkamgknaaGreatDoorR27
namespace Go.Proofs.YtmiekcdkamgknaaGreatDoor
def LikeD (x y:DescL):Prop:=x.ino=y.ino∧x.rd=y.rd∧x.wr=y.wr
def OwnT2 (t t':TabL)(q:Int):Prop:=∀m:Int,hasT t' q m=hasT t q m∧placeT t' q m=placeT t q m∧LikeD (foundT t' q m) (foundT t q m)
theorem OwnT2.rfl' (t:TabL)(q:Int):OwnT2 t t q:=fun _=>⟨rfl,rfl,rfl,rfl,rfl⟩
def Owns (k k':KernL)(q:Int):Prop:=k'.ps.length=k.ps.length∧(∀a:Nat,q=a→k'.ps[a]? = k.ps[a]?)∧OwnT2 k.t k'.t q
theorem Owns.rfl' (k:KernL)(q:Int):Owns k k q:=⟨rfl,fun _ _=>rfl,OwnT2.rfl' _ _⟩
end Go.Proofs.YtmiekcdkamgknaaGreatDoor
namespace Go.Proofs.YtmiekcdkamgknaaGreatDoor
theorem do_live {k:KernL}{p:Int}{c:CallL}(h:(doK k p c).2.e=0):liveB k.ps p=true∧1≤c.kind∧c.kind≤17:=by
 unfold doK at h;split at h
 · cases h
 · rename_i hb
   refine⟨?_,by omega,by omega⟩
   cases e:liveB k.ps p with
   | true=>rfl
   | false=>exact absurd (.inl e) hb
theorem do_look {k:KernL}{p:Int}(hl:liveB k.ps p=true){c:CallL}(hc:c.kind=11∨c.kind=12∨c.kind=14):doK k p c=lookedK k p c:=by
 unfold doK;rw[if_neg (by rw[hl];simp;omega),if_neg (by omega),if_neg (by omega),if_neg (by omega),if_neg (by omega),if_pos hc]
theorem read_zero {l:List NodeL}{i a n:Int}(h:(readL l i a n).2=0):fileE l i=0∧0≤a∧0≤n∧readL l i a n=(partD (getL l i).data a n,0):=by
 unfold readL at h ⊢;split at h
 · rename_i h1;exact absurd h h1
 · rename_i h1
   split at h
   · cases h
   · rename_i h2
     rw[if_neg h1,if_neg h2];exact⟨Decidable.of_not_not h1,by omega,by omega,rfl⟩
theorem part_len (d:Nm)(i n:Nat):(partD d i n).length=min n (d.length-i):=by
 have h1 : ∀m,m<(partD d i n).length↔m<min n (d.length-i):=fun m=>by
  (have h2:(partD d i n)[m]?≠ none↔m<(partD d i n).length:=by rw[ne_eq,List.getElem?_eq_none_iff];omega);rw[←h2,part_get];split
  · rw[ne_eq,List.getElem?_eq_none_iff];omega
  · simp;omega
 have h2:=h1 (partD d i n).length;have h3:=h1 (min n (d.length-i));omega
end Go.Proofs.YtmiekcdkamgknaaGreatDoor
namespace Go.Proofs.YtmiekcdkamgknaaGreatDoor
structure OpenW (k:KernL) (p fr:Int) (c:CallL) (l:List NodeL) (i:Nat):Prop where
 live:liveB k.ps p=true
 cnt:countT k.t p≠8
 base:baseK k p c.fd=(fr,0)
 eq:doK k p c=(⟨openedL l i 1,k.most,k.room,(openT k.t p (newD c.flags i)).1,k.ps⟩,numR (openT k.t p (newD c.flags i)).2.1)
 kind:(nd l i).kind≠0
 rig:RigK (withD k l)
 way:(∃(s:SpotL) (d:Nat),hasF c.flags 4=true∧walkL k.l (procL k.ps p).who fr c.path false=(s,0)∧Entered k.l l (procL k.ps p).who fr c.path s d i (ownN (fileN (maskI c.mode (procL k.ps p).umask)) (procL k.ps p).who))
  ∨ ((walkL k.l (procL k.ps p).who fr c.path (followB c.flags)).2=0∧(walkL k.l (procL k.ps p).who fr c.path (followB c.flags)).1.ino=i∧(nd k.l i).kind≠0∧fitE (nd k.l i) (procL k.ps p).who c.flags (onlyB c.flags)=0
   ∧ l=(fitL k.l k.room (procL k.ps p).who i c.flags (onlyB c.flags)).1∧(fitL k.l k.room (procL k.ps p).who i c.flags (onlyB c.flags)).2=0)
theorem OpenW.after {k:KernL}(h:RigK k){p fr:Int}{c:CallL}{l:List NodeL}{i:Nat}(w:OpenW k p fr c l i):hasT (doK k p c).1.t p (doK k p c).2.n=true∧foundT (doK k p c).1.t p (doK k p c).2.n = { newD c.flags i with refs:=1}∧SameW l (doK k p c).1.l
 ∧ (nd (doK k p c).1.l i).kind=(nd l i).kind∧(nd (doK k p c).1.l i).data=(nd l i).data∧(nd (doK k p c).1.l i).kind≠0:=by
 have h0:=open_goes h.tab (h.in_live w.live) w.cnt (newD c.flags i);obtain⟨a1,a2,a3,_⟩:=back_open h.tab h0
 have hpos:0<(nd l i).opn+1:=by
  have:=w.rig.opn i w.kind;show 0<(nd (withD k l).l i).opn+1;omega
 rw[w.eq];refine⟨a1,a3,opened_seen w.kind (.inr (.inr hpos)),?_,?_,?_⟩
 · show(nd (openedL l i 1) i).kind=_
   rw[opened_nd w.kind,if_pos rfl];exact(atN_kind hpos).1
 · show(nd (openedL l i 1) i).data=_
   rw[opened_nd w.kind,if_pos rfl];unfold atN;rw[if_neg (by omega)];rfl
 · show(nd (openedL l i 1) i).kind≠0
   rw[opened_nd w.kind,if_pos rfl,(atN_kind hpos).1];exact w.kind
theorem base_cwd {k:KernL}{p fr:Int}{c:CallL}(hc:c.fd = -1)(hb:baseK k p c.fd=(fr,0)):fr=(procL k.ps p).cwd:=by
 unfold baseK at hb;rw[if_pos hc]at hb;injection hb with hb _;exact hb.symm
end Go.Proofs.YtmiekcdkamgknaaGreatDoor
namespace Go.Proofs.YtmiekcdkamgknaaGreatDoor
theorem legal_part {q:Nm}(h:legalL q=0):q≠ []∧q.length≤12∧(47:UInt8)∉q∧(0:UInt8)∉q:=by
 have hl:=legal_len h;unfold legalL at h;split at h
 · cases h
 · rename_i hc
   have hb : ∀c∈q,barredL c=false:=fun c hm=>by
    cases e:barredL c with
    | false=>rfl
    | true=>exact absurd (.inr (.inr (.inr (List.any_eq_true.2 ⟨c,hm,e⟩)))) hc
   exact⟨fun e=>hc (.inl e),hl,fun hm=>absurd (hb _ hm) (by decide),fun hm=>absurd (hb _ hm) (by decide)⟩
theorem legal_parts {q:Nm}(h:legalL q=0):parts q = [q]:=parts_one (legal_part h).2.2.1 (legal_part h).1
theorem legal_check {q:Nm}(h:legalL q=0):checkE q=0:=by
 obtain⟨a,b,c,d⟩:=legal_part h;rw[checkE_parts,if_neg a,if_neg (by omega),if_neg d,if_neg];rw[legal_parts h];simp;exact b
theorem pre_not {q:Nm}(h:(47:UInt8)∉q):Lib.hasPrefix q [47]=false:=hasPrefix_notin h
theorem suf_not {q:Nm}(h:(47:UInt8)∉q)(h0:q≠ []):Lib.hasSuffix q [47]=false:=by
 rw[suf_eq q h0,beq_eq_false_iff_ne];intro e;exact h (by rw[←e];exact List.getLast_mem h0)
theorem one_go {l:List NodeL}{i:Int}(hd:dirE l i=0)(who:Int)(q:Str)(hops:Nat):goW l who false false i [q] hops=if mayAt l who i=false then(zeroS,7)else if lookL l i q<0 then(⟨i,q, -1,false⟩,0)else(⟨i,q,lookL l i q,false⟩,0):=by
 cases hm:mayAt l who i with
 | false=>rw[go_may hd hm,if_pos rfl]
 | true =>
    rw[if_neg (by decide)];by_cases hn:lookL l i q<0
    · rw[go_none1 hd hm hn rfl,if_pos hn]
    · rw[go_spot hd hm hn (by simp) rfl (by simp),if_neg hn]
theorem one_walk {l:List NodeL}{i:Int}(hd:dirE l i=0)(who:Int){q:Nm}(hq:legalL q=0):walkL l who i q false=if mayAt l who i=false then(zeroS,7)else if lookL l i q<0 then(⟨i,q, -1,false⟩,0)else(⟨i,q,lookL l i q,false⟩,0):=by
 obtain⟨h1,h2,h3,h4⟩:=legal_part hq;unfold walkL firstAt;rw[legal_check hq,legal_parts hq,pre_not h3,suf_not h3 h1,if_neg (by decide),if_neg (by simp),if_neg (by decide)];exact one_go hd who q 0
theorem check_two {p q:Str}(hp:checkE p=0)(hl:p.length≤80)(hq:legalL q=0):checkE (p++47::q)=0:=by
 obtain⟨p1,p2,p3,p4⟩:=check_zero hp;obtain⟨h1,h2,h3,h4⟩:=legal_part hq;rw[checkE_parts,if_neg (by simp),if_neg (by rw[List.length_append,List.length_cons];omega),if_neg,if_neg]
 · rw[parts_app,legal_parts hq]
   intro h;obtain⟨x,hx,hb⟩:=List.any_eq_true.1 h;simp only[decide_eq_true_iff]at hb;rcases List.mem_append.1 hx with hx | hx
   · have:=p4 x hx;omega
   · obtain rfl:=List.mem_singleton.1 hx
     omega
 · intro h
   rcases List.mem_append.1 h with h | h
   · exact p3 h
   · rcases List.mem_cons.1 h with h | h
     · cases h
     · exact h4 h
theorem two_walk {l:List NodeL}(who fr:Int){p q:Str}(hl:p.length≤80)(hq:legalL q=0){i:Int}(hw:wnodeL (walkL l who fr p true)=(i,0))(hd:dirE l i=0):walkL l who fr (p++47::q) false=walkL l who i q false:=by
 obtain⟨e1,e2,e3⟩:=node_ok hw;obtain⟨h1,h2,h3,h4⟩:=legal_part hq
 have hp:checkE p=0:=by
  unfold walkL at e1;split at e1
  · rename_i hc;exact absurd e1 hc
  · rename_i hc;exact Decidable.of_not_not hc
 have hne:=check_ne hp;have hpre:Lib.hasPrefix (p++47::q) [47]=Lib.hasPrefix p [47]:=hasPrefix_app hne
 have hsuf:Lib.hasSuffix (p++47::q) [47]=false:=by
  rw[suf_eq _ (by simp),beq_eq_false_iff_ne];intro e;refine h3 ?_;rw[←e,List.getLast_append_of_ne_nil _ (by simp),List.getLast_cons h1];exact List.getLast_mem h1
 have hfa:firstAt fr (p++47::q)=firstAt fr p:=by unfold firstAt;rw[hpre]
 have hL:walkL l who fr (p++47::q) false=goW l who false false (firstAt fr p) (parts p++ [q]) 0:=by
  unfold walkL;rw[check_two hp hl hq,parts_app,legal_parts hq,hsuf,hfa,if_neg (by decide),if_neg (by simp)]
 rw[hL,one_walk hd who hq];unfold walkL at e1 e2 e3;rw[if_neg (by rw[hp];decide)]at e1 e2 e3;by_cases hps:parts p = []
 · rw[if_pos hps]at e1 e2 e3
   split at e1
   · rename_i hc;exact absurd e1 hc
   · rename_i hc
     rw[if_neg hc]at e3;have e3:firstAt fr p=i:=e3;rw[hps,List.nil_append,e3];exact one_go hd who q 0
 · rw[if_neg hps]at e1 e2 e3
   obtain⟨h9,_,e⟩:=join_go (l:=l) who (Lib.hasSuffix p [47]) false false (qs:= [q]) (by simp) (firstAt fr p) (parts p) 0 (fun h=>absurd h hps) e1 e2;rw[e,e3];exact one_go hd who q h9
theorem opened_same {l:List NodeL}{i:Nat}(hik:(nd l i).kind≠0){b:Int}{j:Nat}(hj:(nd (openedL l (i:Int) b) j).kind≠0):SeenN (nd (openedL l (i:Int) b) j) (nd l j):=by
 rw[opened_nd hik]at hj ⊢;split
 · rename_i e
   subst e;rw[if_pos rfl]at hj;unfold atN at hj ⊢;split
   · rename_i hc;rw[if_pos hc]at hj;exact absurd rfl hj
   · exact⟨rfl,rfl,rfl,rfl,rfl,fun _=>rfl⟩
 · exact SeenN.rfl' _
structure ChdirW (k:KernL) (p fr:Int) (c:CallL) (i:Nat):Prop where
 live:liveB k.ps p=true
 base:baseK k p c.fd=(fr,0)
 eq:doK k p c=chdirK k p i
 way:wnodeL (walkL k.l (procL k.ps p).who fr c.path true)=((i:Int),0)
 kind:(nd k.l i).kind=2
 may:mayB (nd k.l i).mode (nd k.l i).owner (procL k.ps p).who 1=true
 num:c.kind=14
theorem chdir_ways {k:KernL}(h:RigK k){p:Int}{c:CallL}(hc:c.kind=14)(he:(doK k p c).2.e=0) : ∃(fr:Int) (i:Nat),ChdirW k p fr c i:=by
 have hl:=(do_live he).1;have hdo:=do_look hl (c:=c) (by omega);rw[hdo]at he;(have hf:lookFollow c=true:=by unfold lookFollow;rw[decide_eq_true hc];rfl);unfold lookedK at he hdo;rw[hf]at he hdo;split at he
 · rename_i hb;exact absurd he hb
 rename_i hb;rw[if_neg hb]at hdo;have hb:=Decidable.of_not_not hb;split at he
 · rename_i hw;exact absurd he hw
 rename_i hw;rw[if_neg hw]at hdo;have hw:=Decidable.of_not_not hw;obtain⟨i,hi,hik,_,_⟩:=wnode_got h.disk _ _ _ _ hw;rw[hi]at he hdo;unfold lookAt at he hdo;rw[if_neg (by omega),if_neg (by omega),if_neg (by omega),nodeL_nd hik]at he hdo;split at he
 · cases he
 rename_i h2;rw[if_neg h2]at hdo;split at he
 · cases he
 rename_i hm;rw[if_neg hm]at hdo;exact⟨(baseK k p c.fd).1,i,hl,by rw[←hb],hdo,by rw[←hi,←hw],Decidable.of_not_not h2,by simpa using hm,hc⟩
theorem chdir_proc {k:KernL}{p:Int}(hl:liveB k.ps p=true)(i:Int):liveB (chdirK k p i).1.ps p=true∧procL (chdirK k p i).1.ps p=cwdP (procL k.ps p) i:=by
 obtain⟨a,ha,rfl,e,h1⟩:=live_in hl;unfold chdirK;rw[e,Int.toNat_natCast];obtain⟨b1,b2⟩:=live_at (ps:=k.ps.set a (cwdP k.ps[a] i)) (a:=a) (by rw[List.length_set];exact ha);rw[b1,b2,List.getElem_set_self];exact⟨h1,rfl⟩
theorem ChdirW.seen {k:KernL}(h:RigK k){p fr:Int}{c:CallL}{i:Nat}(w:ChdirW k p fr c i):(nd (doK k p c).1.l i).kind=2∧SeenN (nd (doK k p c).1.l i) (nd k.l i):=by
 have hR:=right_do h p c (by have:=w.num;unfold Kd;omega);obtain⟨hl2,hp2⟩:=chdir_proc w.live i
 have hcwd:(nodeL (doK k p c).1.l (i:Int)).kind=2:=by
  have:=(hR.cwd_open (p:=p) (by rw[w.eq];exact hl2));obtain⟨j,hj,h2,_⟩:=this;rw[w.eq,hp2]at hj;have hj:(i:Int)=j:=hj;(have:i=j:=by omega);subst this;rw[nodeL_nd (by rw[h2];decide)];exact h2
 have hk2:(nd (doK k p c).1.l i).kind=2:=by
  rcases nodeL_cases (doK k p c).1.l (i:Int)with⟨j,hj,_,e⟩ | ⟨_,e⟩
  · have:i=j:=by omega
    subst this;rw[←e];exact hcwd
  · rw[e]at hcwd;cases hcwd
 refine⟨hk2,?_⟩;obtain⟨o,ho,ho2,_⟩:=h.cwd_open w.live;(have hik:(nd k.l i).kind≠0:=by rw[w.kind];decide);(have e:(doK k p c).1.l=openedL (openedL k.l (i:Int) 1) (o:Int) (-1):=by rw[w.eq];show openedL _ (procL k.ps p).cwd _=_;rw[ho]);rw[e]at hk2 ⊢
 have ho1:(nd (openedL k.l (i:Int) 1) o).kind≠0:=by
  rw[opened_nd hik];split
  · rename_i eo
    subst eo;rw[(atN_kind (by have:=h.opn o hik;omega)).1];exact hik
  · rw[ho2];decide
 have s2:=opened_same ho1 (b:= -1) (j:=i) (by rw[hk2];decide);have s1:=opened_same hik (b:=1) (j:=i) (by rw[←s2.1,hk2];decide);exact⟨s2.1.trans s1.1,s2.2.1.trans s1.2.1,s2.2.2.1.trans s1.2.2.1,s2.2.2.2.1.trans s1.2.2.2.1,s2.2.2.2.2.1.trans s1.2.2.2.2.1,fun h3=>(s2.2.2.2.2.2 (s1.1.trans h3)).trans (s1.2.2.2.2.2 h3)⟩
theorem do_stat {k:KernL}{p:Int}(hl:liveB k.ps p=true){c:CallL}(hc:c.kind=12)(hfd:c.fd = -1):(doK k p c).2=if(wnodeL (walkL k.l (procL k.ps p).who (procL k.ps p).cwd c.path (!hasF c.flags 64))).2≠0 then errR (wnodeL (walkL k.l (procL k.ps p).who (procL k.ps p).cwd c.path (!hasF c.flags 64))).2
 else infoR (infoL k.l (wnodeL (walkL k.l (procL k.ps p).who (procL k.ps p).cwd c.path (!hasF c.flags 64))).1):=by
 rw[do_look hl (by omega)];(have hb:baseK k p c.fd=((procL k.ps p).cwd,0):=by unfold baseK;rw[if_pos hfd]);(have hf:lookFollow c = !hasF c.flags 64:=by unfold lookFollow;rw[decide_eq_false (by omega),decide_eq_true hc];simp);unfold lookedK;rw[hb,hf,if_neg (by simp)];split
 · rfl
 · unfold lookAt
   rw[if_pos hc]
theorem law_kmoves {k:KernL}(h:RigK k){p:Int}{name:Nm}(hname:legalL name=0){a s t u v:CallL}(ha:a.kind=14∧a.fd = -1)(hlen:a.path.length≤80)(hs:s.kind=12∧s.fd = -1∧s.path=name∧s.flags=64)
 (ht:t.kind=12∧t.fd = -1∧t.path=a.path++47::name∧t.flags=64) (hu:u.kind=12∧u.fd = -1∧u.path = [46]∧u.flags=0) (hv:v.kind=12∧v.fd = -1∧v.path=a.path∧v.flags=0) (he:(doK k p a).2.e=0) :
 ((doK (doK k p a).1 p s).2.e=(doK k p t).2.e∧(doK (doK k p a).1 p s).2.i.ino=(doK k p t).2.i.ino)∧(doK (doK k p a).1 p u).2.e=0∧(doK k p v).2.e=0∧(doK (doK k p a).1 p u).2.i.ino=(doK k p v).2.i.ino:=by
   obtain⟨fr,i,w⟩:=chdir_ways h ha.1 he;have hfr:=base_cwd ha.2 w.base;obtain⟨hk2,hseen⟩:=w.seen h;obtain⟨hl2,hp2⟩:=chdir_proc w.live i;rw[←w.eq]at hl2 hp2;have hway:=w.way;rw[hfr]at hway;(have n64:(!hasF 64 64)=false:=by decide);(have n0:(!hasF 0 64)=true:=by decide);have hd:dirE k.l (i:Int)=0:=dirE_nd.2 w.kind;have hd2:dirE (doK k p a).1.l (i:Int)=0:=dirE_nd.2 hk2;(have hik:(nd k.l i).kind≠0:=by rw[w.kind];decide);have hik2:(nd (doK k p a).1.l i).kind≠0:=by rw[hk2];decide
   have hmay : ∀who,mayAt (doK k p a).1.l who (i:Int)=mayAt k.l who (i:Int):=fun who=>by
    unfold mayAt;rw[nodeL_nd hik,nodeL_nd hik2,hseen.2.1,hseen.2.2.1]
   have hlook : ∀q,lookL (doK k p a).1.l (i:Int) q=lookL k.l (i:Int) q:=fun q=>by
    unfold lookL;rw[nodeL_nd hik,nodeL_nd hik2,hseen.2.2.2.1,hseen.2.2.2.2.1]
   have ws:walkL (doK k p a).1.l (procL k.ps p).who (i:Int) name false=walkL k.l (procL k.ps p).who (procL k.ps p).cwd (a.path++47::name) false:=by
    rw[two_walk _ _ hlen hname hway hd,one_walk hd2 _ hname,one_walk hd _ hname,hmay,hlook]
   have wu:walkL (doK k p a).1.l (procL k.ps p).who (i:Int) [46] true=(⟨i,[46],i,false⟩,0):=by
    (have h1:checkE [46]=0:=by decide);(have h2:parts [46] = [[46]]:=by decide);(have h3:Lib.hasSuffix ([46]:Str) [47]=false:=by decide);have h4:firstAt (i:Int) [46]=i:=by unfold firstAt;rw[if_neg (by decide)]
    have hm:mayAt (doK k p a).1.l (procL k.ps p).who (i:Int)=true:=by
     rw[hmay];unfold mayAt;rw[nodeL_nd hik];exact w.may
    (have hlk:lookL (doK k p a).1.l (i:Int) [46]=i:=by unfold lookL;rw[if_pos rfl]);unfold walkL;rw[h1,h2,h3,h4,if_neg (by decide),if_neg (by simp),go_spot hd2 hm (by rw[hlk];omega) (by rw[hlk,nodeL_nd hik2,hk2];decide) rfl (by simp),hlk]
   have es:=do_stat hl2 hs.1 hs.2.1;have et:=do_stat w.live ht.1 ht.2.1;have eu:=do_stat hl2 hu.1 hu.2.1;have ev:=do_stat w.live hv.1 hv.2.1;rw[hs.2.2.1,hs.2.2.2,n64,hp2,show(cwdP (procL k.ps p) (i:Int)).who=(procL k.ps p).who from rfl,show(cwdP (procL k.ps p) (i:Int)).cwd=i from rfl,ws]at es;rw[ht.2.2.1,ht.2.2.2,n64]at et;rw[hu.2.2.1,hu.2.2.2,n0,hp2,show(cwdP (procL k.ps p) (i:Int)).who=(procL k.ps p).who from rfl,show(cwdP (procL k.ps p) (i:Int)).cwd=i from rfl,wu]at eu;rw[hv.2.2.1,hv.2.2.2,n0,hway]at ev
   have hn:wnodeL ((⟨i,[46],i,false⟩,0):ResL)=((i:Int),0):=by
    unfold wnodeL;rw[if_neg (by simp),if_neg (by show ¬((i:Int)<0);omega)]
   rw[hn,if_neg (by simp)]at eu;rw[if_neg (by simp)]at ev;refine⟨?_,by rw[eu];rfl,by rw[ev];rfl,by rw[eu,ev];rfl⟩;rw[es,et];split
   · exact⟨rfl,rfl⟩
   · exact⟨rfl,rfl⟩
end Go.Proofs.YtmiekcdkamgknaaGreatDoor
namespace Go.Proofs.YtmiekcdkamgknaaGreatDoor
open Go.RowKit Go.Shelf
section
variable {W:World} {b:Nat} {v0 v1 v2 v3 v4 v5 v6 v7 v8 v9 v10 v11 v12 v13 v14 v15:Value} {t:TypeId} {f:Nat × Nat}
theorem w_disk (h:W.heap[b]? = some (.cells #[v0,v1,v2,v3,v4,v5,v6,v7,v8,v9,v10,v11,v12,v13,v14,v15] t f)):W.rangeAt b 0 [v0,v1,v2]:=fun j v hv=>by
 rw[Lib.cell_of_heap h]
 match j with
 | 0=>simpa using hv
 | 1=>simpa using hv
 | 2=>simpa using hv
 | j+3=>simp at hv
theorem w_tab (h:W.heap[b]? = some (.cells #[v0,v1,v2,v3,v4,v5,v6,v7,v8,v9,v10,v11,v12,v13,v14,v15] t f)):W.rangeAt b 3 [v3,v4]:=fun j v hv=>by
 rw[Lib.cell_of_heap h]
 match j with
 | 0=>simpa using hv
 | 1=>simpa using hv
 | j+2=>simp at hv
theorem w_kern (h:W.heap[b]? = some (.cells #[v0,v1,v2,v3,v4,v5,v6,v7,v8,v9,v10,v11,v12,v13,v14,v15] t f)):W.rangeAt b 0 [v0,v1,v2,v3,v4,v5]:=fun j v hv=>by
 rw[Lib.cell_of_heap h]
 match j with
 | 0=>simpa using hv
 | 1=>simpa using hv
 | 2=>simpa using hv
 | 3=>simpa using hv
 | 4=>simpa using hv
 | 5=>simpa using hv
 | j+6=>simp at hv
theorem cells16 (h:W.heap[b]? = some (.cells #[v0,v1,v2,v3,v4,v5,v6,v7,v8,v9,v10,v11,v12,v13,v14,v15] t f)) :
 W.cell? ⟨b,0,none⟩=some v0∧W.cell? ⟨b,1,none⟩=some v1∧W.cell? ⟨b,2,none⟩=some v2∧W.cell? ⟨b,3,none⟩=some v3∧W.cell? ⟨b,4,none⟩=some v4∧W.cell? ⟨b,5,none⟩=some v5∧W.cell? ⟨b,6,none⟩=some v6∧W.cell? ⟨b,7,none⟩=some v7∧W.cell? ⟨b,8,none⟩=some v8∧W.cell? ⟨b,9,none⟩=some v9∧W.cell? ⟨b,10,none⟩=some v10∧W.cell? ⟨b,11,none⟩=some v11∧W.cell? ⟨b,12,none⟩=some v12∧W.cell? ⟨b,13,none⟩=some v13∧W.cell? ⟨b,14,none⟩=some v14∧W.cell? ⟨b,15,none⟩=some v15:=by
 refine⟨?_,?_,?_,?_,?_,?_,?_,?_,?_,?_,?_,?_,?_,?_,?_,?_⟩<;>(rw[Lib.cell_of_heap h];rfl)
end
theorem heap_w3 {W:World}{b:Nat}{v0 v1 v2 v3 v4 v5 v6 v7 v8 v9 v10 v11 v12 v13 v14 v15 x0 x1 x2:Value}{t:TypeId}(h:W.heap[b]? = some (.cells #[v0,v1,v2,v3,v4,v5,v6,v7,v8,v9,v10,v11,v12,v13,v14,v15] t (0,0))):(W.setCells b 0 [x0,x1,x2]).heap[b]? = some (.cells #[x0,x1,x2,v3,v4,v5,v6,v7,v8,v9,v10,v11,v12,v13,v14,v15] t (0,0)):=by
 have h0:=heap_set (i:=0) (u:=x0) h;have h1:=heap_set (i:=1) (u:=x1) h0;have h2:=heap_set (i:=2) (u:=x2) h1;exact h2
theorem wp_store_w3 {P:Program}{op:Oper}{a:Act}{w:World}{K:Act→World→Prop}{Q:Exit→Act→World→Prop}(ty:TypeId)(x y:Operand)(ho:op.op = .store ty x y)
 (b:Nat) {v0 v1 v2 v3 v4 v5 v6 v7 v8 v9 v10 v11 v12 v13 v14 v15 x0 x1 x2:Value} {t:TypeId} (hx:a.eval x = .pointer (some ⟨b,0,none⟩)) (hy:a.eval y = .agg #[x0,x1,x2]) (hb:w.heap[b]? = some (.cells #[v0,v1,v2,v3,v4,v5,v6,v7,v8,v9,v10,v11,v12,v13,v14,v15] t (0,0)))
 (hi:(P.info? ty).map (·.size)=some 3) (o0:x0.oneCell'=true) (o1:x1.oneCell'=true) (o2:x2.oneCell'=true)
 (h : ∀W',Below b w W'→(∀g,g≠b→W'.heap[g]? = w.heap[g]?)→W'.heap.size=w.heap.size→W'.heap[b]? = some (.cells #[x0,x1,x2,v3,v4,v5,v6,v7,v8,v9,v10,v11,v12,v13,v14,v15] t (0,0))→K (a.put op.dst undef) W'):op.wp P a w K Q:=by
  refine wp_store_mid ty x y ho b 0 #[x0,x1,x2] hx hy ?_ (by simpa using hi) ?_ ?_
  · intro j hj
    have hj':j<3:=hj;(have e : ∀i,w.frozen? ⟨b,i,none⟩=false:=fun i=>Lib.frozen_of_heap hb i);refine⟨?_,e _⟩;have hc:=cells16 hb
    match j,hj' with
    | 0,_=>rw[hc.1];rfl
    | 1,_=>rw[hc.2.1];rfl
    | 2,_=>rw[hc.2.2.1];rfl
  · exact all_oneCell_toArray (cs:= [x0,x1,x2]) fun v hv=>by
     simp only[List.mem_cons,List.not_mem_nil,or_false]at hv;rcases hv with rfl | rfl | rfl<;>assumption
  · exact h _ (below_setCells _ _ (Nat.le_refl _) _ _ _) (fun g hg=>heap_setCells _ _ hg _ _ _) (size_setCells _ _ _ _) (heap_w3 hb)
theorem th4 {X:Nat→Prop}{w:World}{P Q R S:Thing}(f:Firm P)(h:P X w)(g:Firm Q)(k:Q X w)(e:Firm R)(m:R X w)(d:Firm S)(n:S X w) : ∀U∈ [P,Q,R,S],Firm U∧U X w:=fun U hU=>by
 simp only[List.mem_cons,List.not_mem_nil,or_false]at hU;rcases hU with rfl | rfl | rfl | rfl
 · exact⟨f,h⟩
 · exact⟨g,k⟩
 · exact⟨e,m⟩
 · exact⟨d,n⟩
end Go.Proofs.YtmiekcdkamgknaaGreatDoor
namespace Go.Proofs.YtmiekcdkamgknaaGreatDoor
open Go.RowKit
def askB (flags f:Int):Bool:=decide (bits .and .i64 flags f=f)
def bitB (flags:Int)(k:Nat):Bool:=(V flags).getLsbD k
theorem has_k (flags f:Int)(k:Nat)(hf:V f=BitVec.twoPow 64 k)(h1:(BitVec.twoPow 64 k).toInt≠0):hasF flags f=bitB flags k:=by
 unfold hasF bitB;rw[and_V,hf,BitVec.and_twoPow]
 cases (V flags).getLsbD k
 · rfl
 · simp[h1]
theorem ask_k (flags f:Int)(k:Nat)(hf:V f=BitVec.twoPow 64 k)(h1:(BitVec.twoPow 64 k).toInt=f)(h0:f≠0):askB flags f=bitB flags k:=by
 unfold askB bitB;rw[and_V,hf,BitVec.and_twoPow]
 cases (V flags).getLsbD k
 · have h2: ¬((0:Int)=f):=fun e=>h0 e.symm
   simpa using h2
 · simp[h1]
theorem ask64 (fl:Int):askB fl 64=hasF fl 64:=(ask_k fl 64 6 (by decide) (by decide) (by decide)).trans (has_k fl 64 6 (by decide) (by decide)).symm
def heldL (l:List NodeL)(i:Int):List NodeL:=setL l i (opnN (nodeL l i) 1)
theorem held_eq {l:List NodeL}{i:Nat}(hik:(nd l i).kind≠0)(ho:0≤(nd l i).opn):heldL l (i:Int)=openedL l (i:Int) 1:=by
 rw[opened_eq hik];unfold heldL atN;rw[if_neg (by omega),nodeL_nd hik,setL_nat (nd_kind hik)]
end Go.Proofs.YtmiekcdkamgknaaGreatDoor
