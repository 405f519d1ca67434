import Derived.Test.YtmiekcdkamgknaaGreatDoorR17
import Derived.Test.YtmiekcdkamgknaaGreatDoorR24
namespace Go.Proofs.YtmiekcdkamgknaaGreatDoor
open Go.RowKit Go.Shelf
attribute [local go_sem ↓] Go.wp_at_zero Go.wp_at_succ
theorem bel_al2 {w W0 W1:World}{o:Obj}(h:Below w.heap.size w W0)(hs:W0.heap.size=w.heap.size+1)(g:Below W0.heap.size W0 W1):Below w.heap.size w (W1.alloc o) :=
 (h.trans (g.mono (by omega))).alloc (by have:=g.size;omega) o
theorem rootR_step (l:List NodeL)(f:Nat)(j:Int)(h:j≠0):rootR l (f+1) j=if gotB l j && decide ((atI l j).kind=2)then rootR l f (atI l j).up else false:=by
 conv=>lhs;unfold rootR
 rw[if_neg h]
set_option maxRecDepth 100000 in
set_option maxHeartbeats 2000000 in
theorem rooted_any (v:Value)(ms:List NodeM)(most room i:Int)(w:World)(hv:RdM w.heap.size v ms w)(hl:ms.length≤10000) :
 Calls Tryz.prog 84 #[.agg #[v, .int .i64 most, .int .i64 room], .int .i64 i] w fun e w'=>e = .returned (.bool (rootR (pl ms) (ms.length+1) i))∧Below w.heap.size w w':=by
 obtain⟨ao,cap,rfl,_,_⟩:=rdm_form hv;have HV:=zd hv;clear hv;go_enter Tryz.func84,Tryz.ntmps84;go_wp2_with fail;refine fresh1 (P:=fun W=>Code.wp _ _ _ _ W) ?_;intro W0 hb0 hP hs0;go_loopw [1,5] (fun j' k' wr=>∃(k:Nat) (j:Int),j' = .int .i64 j∧k' = .int .i64 k∧k≤ms.length+1∧Hid (rootR (pl ms) (ms.length+1) i=rootR (pl ms) (ms.length+1-k) j)∧Below W0.heap.size W0 wr) (fun _ k' _=>ms.length+1-(intOf k').toNat)
 case atStart=>exact⟨0,i,rfl,rfl,Nat.zero_le _,zd rfl,Below.refl _ _⟩
 case round =>
  obtain⟨k,j,rfl,rfl,hk,hR,hBr⟩:=hrel;have hPr:=(hBr.block _ (by omega)).trans hP;obtain⟨p0,p1,p2⟩:=cells3 hPr;have hBw:Below w.heap.size w wr:=hb0.trans (hBr.mono (by omega));have sB:=hBr.size;by_cases hlt:k≤ms.length
  · have hI:decide ((k:Int)≤(ms.length:Int))=true:=by simpa using hlt
    obtain⟨f,hf,hf2⟩ : ∃f,ms.length+1-k=f+1∧f=ms.length+1-(k+1):=⟨ms.length-k,by omega,by omega⟩;have hR':=hR.out;rw[hf]at hR';by_cases hj:j=0
    · have hJ:(j == 0)=true:=by simpa using hj
      have HF:Hid (rootR (pl ms) (ms.length+1) i=true):=zd (by rw[hR',hj];rfl);clear hR' hj hf hf2;go_wp2_with fail;go_ret;exact⟨ret_bool HF.out.symm,hBw⟩
    · have hJ:(j == 0)=false:=by simpa using hj
      rw[rootR_step _ _ _ hj]at hR';have HR':=zd hR';clear hR' hj hf;go_wp2_with fail;refine(rget_any (.slice ao ms.length cap) ms most room j wr (rdm_keep HV.out hBw) hl).mono ?_;intro e W1 hget;obtain⟨v1,rfl,hrn,hb1⟩:=hget;obtain⟨aon,capn,ev,_,_⟩:=Rd.form hrn;have ev':v1 = .slice aon (getL (pl ms) j).names.length capn:=ev;subst ev';have hB1:=ret_tr hBr hb1;clear hrn ev p0 p1 p2
      cases hg:gotB (pl ms) j with
      | false =>
         have HF:Hid (rootR (pl ms) (ms.length+1) i=false):=zd (by rw[HR'.out,hg];rfl);generalize getL (pl ms) j=n at *;clear hg;go_wp2_with fail;go_ret;exact⟨ret_bool HF.out.symm,bel_al2 hb0 hs0 hB1⟩
      | true =>
         (have hgl:getL (pl ms) j=atI (pl ms) j:=by unfold getL;rw[hg];rfl);rw[hgl];rw[hg]at HR';generalize atI (pl ms) j=n at *;by_cases h2:n.kind=2
         · have hK:(n.kind != 2)=false:=by simpa using h2
           (have hd:decide (n.kind=2)=true:=by simpa using h2);rw[hd]at HR';have HX:Hid (rootR (pl ms) (ms.length+1) i=rootR (pl ms) (ms.length+1-(k+1)) n.up):=zd (by rw[HR'.out,←hf2];rfl);clear h2 hd hg hgl HR';go_wp2_with fail;go_roundw
           case rel=>exact⟨k+1,n.up,rfl,by go_num,by omega,HX,hB1.alloc hB1.size _⟩
           case measure=>simp[intOf];omega
         · have hK:(n.kind != 2)=true:=by simpa using h2
           (have hd:decide (n.kind=2)=false:=by simpa using h2);rw[hd]at HR';have HF:Hid (rootR (pl ms) (ms.length+1) i=false):=zd (by rw[HR'.out];rfl);clear h2 hd hg hgl HR';go_wp2_with fail;go_ret;exact⟨ret_bool HF.out.symm,bel_al2 hb0 hs0 hB1⟩
  · have hke:k=ms.length+1:=by omega
    have HF:Hid (rootR (pl ms) (ms.length+1) i=false):=zd (by rw[hR.out,hke,Nat.sub_self];rfl);(have hI2:decide (k≤ms.length)=false:=by simp;omega);clear hke hlt;go_wp2_with fail;go_ret;exact⟨ret_bool HF.out.symm,hBw⟩
end Go.Proofs.YtmiekcdkamgknaaGreatDoor
namespace Go.Proofs.YtmiekcdkamgknaaGreatDoor
open Go.RowKit Go.Shelf
attribute [local go_sem ↓] Go.wp_at_zero Go.wp_at_succ
theorem gen_world {P:World→Prop}{w W:World}(hb:Below w.heap.size w W)(h : ∀W',Below w.heap.size w W'→P W'):P W:=h W hb
def FitD (l:List NodeL):Prop:=∀n∈l,Fit n.names
theorem okR_plain {l:List NodeL}{k:Nat}{n:NodeL}(h0:n.kind≠0)(hp:plainB n=false):okR l k n=false:=by
 unfold okR;rw[if_neg h0,hp];rfl
theorem okR_names {l:List NodeL}{k:Nat}{n:NodeL}(h0:n.kind≠0)(hk:n.kind≠2)(hn:n.names.length≠0):okR l k n=false:=by
 unfold okR;rw[if_neg h0];simp[hk,hn]
theorem okR_data {l:List NodeL}{k:Nat}{n:NodeL}(h0:n.kind≠0)(hk:n.kind=2)(hn:n.data≠ []):okR l k n=false:=by
 unfold okR;rw[if_neg h0];simp[hk,hn]
theorem okR_sorted {l:List NodeL}{k:Nat}{n:NodeL}(h0:n.kind≠0)(hs:decide (SortedP n.names)=false):okR l k n=false:=by
 unfold okR;rw[if_neg h0,hs];simp
theorem okR_nam {l:List NodeL}{k:Nat}{n:NodeL}(h0:n.kind≠0)(hs:namableB l n.names=false):okR l k n=false:=by
 unfold okR;rw[if_neg h0,hs];simp
theorem okR_last {l:List NodeL}{k:Nat}{n:NodeL}(h0:n.kind≠0)(hp:plainB n=true)(hx:(n.kind=2∧n.data = [])∨(n.kind≠2∧n.names.length=0))(hs:decide (SortedP n.names)=true)(hn:namableB l n.names=true):okR l k n=lastR l k n (nmL l k (0, -1)):=by
 unfold okR;rw[if_neg h0,hp,hs,hn];rcases hx with⟨h1,h2⟩ | ⟨h1,h2⟩
 · simp[h1,h2]
 · simp[h1,h2]
def NamTo (l:List NodeL)(es:List EntL)(j:Nat):Prop:=(es.take j).all (namB l)=true
theorem nam_succ {l:List NodeL}{es:List EntL}{j:Nat}(h:NamTo l es j)(hj:j<es.length)(hn:namB l es[j]=true):NamTo l es (j+1):=by
 unfold NamTo at h ⊢;rw[List.take_succ_eq_append_getElem hj,List.all_append,h];simp[hn]
theorem nam_bad {l:List NodeL}{es:List EntL}{j:Nat}(hj:j<es.length)(hn:namB l es[j]=false):namableB l es=false:=by
 unfold namableB;rw[List.all_eq_false];exact⟨es[j],List.getElem_mem hj,by rw[hn];decide⟩
theorem nam_end {l:List NodeL}{es:List EntL}{j:Nat}(h:NamTo l es j)(hj:j=es.length):namableB l es=true:=by
 unfold NamTo at h;rw[hj,List.take_length]at h;exact h
theorem lastR_0 {l:List NodeL}{k:Nat}{n:NodeL}{s:Nat × Int}(hk:k=0):lastR l k n s=(n.kind == 2 && (n.up == 0 && n.links == 1)):=by
 unfold lastR;rw[if_pos (by omega),Bool.and_assoc];rfl
theorem lastR_n {l:List NodeL}{k:Nat}{n:NodeL}{x:Nat}{y:Int}(hk:k≠0):lastR l k n (x,y)=if(n.links != (x:Int))=true then false else if((x:Int) == 0 && decide (n.opn<1))=true then false else if(n.kind != 2)=true then true else if((x:Int) == 0)=true then((n.names.length:Int) == 0 && n.up == 0)else((x:Int) == 1 && (n.up == y && rootR l (l.length+1) k)):=by
 unfold lastR
 have hlen:((n.names.length:Int) == 0)=decide (n.names.length=0):=by
  rw[Bool.eq_iff_iff,beq_iff_eq,decide_eq_true_iff];omega
 have hx0:((x:Int) == 0)=decide (x=0):=by
  rw[Bool.eq_iff_iff,beq_iff_eq,decide_eq_true_iff];omega
 have hx1:((x:Int) == 1)=decide (x=1):=by
  rw[Bool.eq_iff_iff,beq_iff_eq,decide_eq_true_iff];omega
 have hup0:(n.up == 0)=decide (n.up=0):=rfl;have hupy:(n.up == y)=decide (n.up=y):=rfl;rw[hlen,hx0,hx1,hup0,hupy];clear hlen hx0 hx1 hup0 hupy;dsimp only;by_cases h1:n.links=(x:Int)<;>by_cases h2:x=0<;>by_cases h3:n.opn<1<;>by_cases h4:n.kind=2<;>simp[hk,h1,h2,h3,h4,Bool.and_assoc]
structure RtK (b:Nat) (u:Value) (most room:Int) (n:NodeL) (aon:Option Addr) (capn:Nat) (W:World):Prop where
 d:W.heap[b]? = some (.cells #[u, .int .i64 most, .int .i64 room] 48 (0,0))
 n:W.heap[b+1]? = some (.cells #[.int .i64 n.kind, .int .i64 n.mode, .int .i64 n.owner, .int .i64 n.links, .int .i64 n.opn, .int .i64 n.up, .string (bs n.data), .slice aon n.names.length capn] 85 (0,0))
theorem RtK.keep {b:Nat}{u:Value}{most room:Int}{n:NodeL}{aon:Option Addr}{capn:Nat}{W W':World}(h:RtK b u most room n aon capn W)(hb:Below W.heap.size W W'):RtK b u most room n aon capn W' :=
 ⟨(hb.block _ (Array.getElem?_eq_some_iff.1 h.d).1).trans h.d,(hb.block _ (Array.getElem?_eq_some_iff.1 h.n).1).trans h.n⟩
set_option maxRecDepth 100000 in
set_option maxHeartbeats 8000000 in
theorem right_any (v:Value)(ms:List NodeM)(most room:Int)(k:Nat)(hk:k<ms.length)(w:World)(hv:RdM w.heap.size v ms w)(hsm:Small (pl ms))(hfit:FitD (pl ms)) :
 Calls Tryz.prog 36 #[.agg #[v, .int .i64 most, .int .i64 room], .int .i64 k] w fun e w'=>e = .returned (.bool (okR (pl ms) k (atI (pl ms) k)))∧Below w.heap.size w w':=by
 (have hl:ms.length≤110:=by have:=hsm.1;rwa [pl_len]at this);obtain⟨ao,cap,rfl,_,_⟩:=rdm_form hv;obtain⟨b,off,n,aon,capn,rfl,hb,hn, -,hrn,c0,c1,c2,c3,c4,c5,c6,c7⟩:=node_at hv k hk;have hat:=at_nat (pl ms) k (by rw[pl_len];exact hk);rw[hn]at hat;rw[hat];(have hmem:n∈pl ms:=by rw[←hn];exact List.getElem_mem _);have hnl:n.names.length≤130:=(hsm.2 n hmem).2;have HF:=zd (hfit n hmem);have HV:=zd hv;have HS:=zd hsm;have HR:=zd hrn;(have k0:(0:Int)≤(k:Int):=by omega);(have k1:(k:Int)<(ms.length:Int):=by omega);clear hv hsm hfit hn hat hmem hrn;go_enter Tryz.func36,Tryz.ntmps36;by_cases h0:n.kind=0
 · have hI:(n.kind == 0)=true:=by simpa using h0
   have HE:Hid (okR (pl ms) k n=decide (n=zeroN)):=zd (by unfold okR;rw[if_pos h0]);clear h0;go_wp2_with fail;refine fresh2 (P:=fun W=>Calls _ _ _ W _) ?_;intro W0 hb0 hP hQ hs0;refine(alike_any n zeroN (.slice aon n.names.length capn) (.slice none 0 0) W0 (rd_keep (Rd.mono HR.out (Nat.le_refl _)) hb0) (Rd.none0 _ _ _) (by omega) (by decide)).mono ?_;rintro e W1 ⟨rfl,hb1⟩;rw[←HE.out];go_wp2_with fail;go_ret;exact⟨rfl,ret_tr hb0 hb1⟩
 (have hI0:(n.kind == 0)=false:=by simpa using h0);by_cases p0:n.kind<1
 case pos =>
  (have hI:decide (n.kind<1)=true:=by simpa using p0);have HE:=zd (okR_plain (l:=pl ms) (k:=k) h0 (show plainB n=false by unfold plainB;rw[Bool.eq_false_iff];intro hc;simp only[Bool.and_eq_true,decide_eq_true_iff]at hc;omega));clear h0 p0;go_wp2_with fail;go_ret;exact⟨ret_bool HE.out.symm,((Below.refl _ w).alloc (Nat.le_refl _) _).alloc (by simp) _⟩
 (have hp0:decide (n.kind<1)=false:=by simpa using p0);by_cases p1:3<n.kind
 case pos =>
  (have hI:decide (3<n.kind)=true:=by simpa using p1);have HE:=zd (okR_plain (l:=pl ms) (k:=k) h0 (show plainB n=false by unfold plainB;rw[Bool.eq_false_iff];intro hc;simp only[Bool.and_eq_true,decide_eq_true_iff]at hc;omega));clear h0 p1 p0;go_wp2_with fail;go_ret;exact⟨ret_bool HE.out.symm,((Below.refl _ w).alloc (Nat.le_refl _) _).alloc (by simp) _⟩
 (have hp1:decide (3<n.kind)=false:=by simpa using p1);by_cases p2:n.mode<0
 case pos =>
  (have hI:decide (n.mode<0)=true:=by simpa using p2);have HE:=zd (okR_plain (l:=pl ms) (k:=k) h0 (show plainB n=false by unfold plainB;rw[Bool.eq_false_iff];intro hc;simp only[Bool.and_eq_true,decide_eq_true_iff]at hc;omega));clear h0 p2 p0 p1;go_wp2_with fail;go_ret;exact⟨ret_bool HE.out.symm,((Below.refl _ w).alloc (Nat.le_refl _) _).alloc (by simp) _⟩
 (have hp2:decide (n.mode<0)=false:=by simpa using p2);by_cases p3:63<n.mode
 case pos =>
  (have hI:decide (63<n.mode)=true:=by simpa using p3);have HE:=zd (okR_plain (l:=pl ms) (k:=k) h0 (show plainB n=false by unfold plainB;rw[Bool.eq_false_iff];intro hc;simp only[Bool.and_eq_true,decide_eq_true_iff]at hc;omega));clear h0 p3 p0 p1 p2;go_wp2_with fail;go_ret;exact⟨ret_bool HE.out.symm,((Below.refl _ w).alloc (Nat.le_refl _) _).alloc (by simp) _⟩
 (have hp3:decide (63<n.mode)=false:=by simpa using p3);by_cases p4:n.opn<0
 case pos =>
  (have hI:decide (n.opn<0)=true:=by simpa using p4);have HE:=zd (okR_plain (l:=pl ms) (k:=k) h0 (show plainB n=false by unfold plainB;rw[Bool.eq_false_iff];intro hc;simp only[Bool.and_eq_true,decide_eq_true_iff]at hc;omega));clear h0 p4 p0 p1 p2 p3;go_wp2_with fail;go_ret;exact⟨ret_bool HE.out.symm,((Below.refl _ w).alloc (Nat.le_refl _) _).alloc (by simp) _⟩
 (have hp4:decide (n.opn<0)=false:=by simpa using p4);(have hplain:plainB n=true:=by unfold plainB;simp only[Bool.and_eq_true,decide_eq_true_iff];omega);have HPL:=zd hplain;have H0:=zd h0;clear hplain h0 p0 p1 p2 p3 p4;by_cases bad1:n.kind=2∧n.data≠ []
 case pos =>
  (have g1:(n.kind != 2)=false:=by simpa using bad1.1);(have g2:(n.kind == 2)=true:=by simpa using bad1.1);(have g3:List.isEmpty n.data=false:=by simpa using bad1.2);have HE:=zd (okR_data (l:=pl ms) (k:=k) H0.out bad1.1 bad1.2);clear bad1;go_wp2_with fail;go_ret;exact⟨ret_bool HE.out.symm,((Below.refl _ w).alloc (Nat.le_refl _) _).alloc (by simp) _⟩
 by_cases bad2:n.kind≠2∧n.names.length≠0
 case pos =>
  (have g1:(n.kind != 2)=true:=by simpa using bad2.1);(have g3:decide (0<n.names.length)=true:=by have:=bad2.2;simp;omega);have HE:=zd (okR_names (l:=pl ms) (k:=k) H0.out bad2.1 bad2.2);clear bad1 bad2;go_wp2_with fail;go_ret;exact⟨ret_bool HE.out.symm,((Below.refl _ w).alloc (Nat.le_refl _) _).alloc (by simp) _⟩
 have hx:(n.kind=2∧n.data = [])∨(n.kind≠2∧n.names.length=0):=by
  by_cases e:n.kind=2
  · exact .inl ⟨e,Decidable.byContradiction fun h=>bad1 ⟨e,h⟩⟩
  · exact .inr ⟨e,Decidable.byContradiction fun h=>bad2 ⟨e,h⟩⟩
 have HX:=zd hx;clear bad1 bad2
 have HB : ∀W,Below w.heap.size w W→Calls Tryz.prog 82 #[.slice aon n.names.length capn] W fun e w'=>e = .returned (.bool (decide (SortedP n.names)))∧∃m,w'=W.drewN m :=
  fun W hb=>rsorted_any w.heap.size _ n.names W (Rd.below HR.out hb) (by omega) HF.out
 have HBH:=zd HB;clear HB;rcases hx with⟨e1,e2⟩ | ⟨e1,e2⟩
 · have g1:(n.kind != 2)=false:=by simpa using e1
   (have g2:(n.kind == 2)=true:=by simpa using e1);(have g3:List.isEmpty n.data=true:=by simpa using e2);clear e1 e2;go_wp2_with fail;refine fresh2 (P:=fun W=>Calls _ _ _ W _) ?_;intro W0 hb0 hP hQ hs0;refine(HBH.out W0 hb0).mono ?_;rintro e W1 ⟨rfl,m1,rfl⟩;clear c0 c1 c2 c3 c4 c5 c6 c7 g3 hI0 hp0 hp1 hp2 hp3 hp4;have KC:=zd (show RtK w.heap.size (.slice (some ⟨b,off,none⟩) ms.length cap) most room n aon capn (W0.drewN m1)from⟨hP,hQ⟩);have hb1:Below w.heap.size w (W0.drewN m1):=below_drewN hb0 m1;have hs1:(W0.drewN m1).heap.size=w.heap.size+2:=hs0;clear hP hQ hb0 hs0;generalize W0.drewN m1=W1 at *
   cases hso:decide (SortedP n.names)with
   | false =>
      have HE:=zd (okR_sorted (l:=pl ms) (k:=k) H0.out hso);clear hso;go_wp2_with fail;go_ret;exact⟨ret_bool HE.out.symm,hb1⟩
   | true =>
      have HSo:=zd hso;clear hso;go_wp2_with fail;go_loopw [6] (fun i' wr=>∃j:Nat,i' = .int .i64 j∧j≤n.names.length∧Hid (NamTo (pl ms) n.names j)∧Hid (RtK w.heap.size (.slice (some ⟨b,off,none⟩) ms.length cap) most room n aon capn wr)∧Below w.heap.size w wr) (fun i' _=>n.names.length-(intOf i').toNat)
      case atStart=>exact⟨0,rfl,Nat.zero_le _,zd rfl,KC,hb1⟩
      case round =>
       obtain⟨j,rfl,hj,hN,hK,hBr⟩:=hrel;obtain⟨p0,p1,p2⟩:=cells3 hK.out.d;obtain⟨q0,q1,q2,q3,q4,q5,q6,q7⟩:=cells8 hK.out.n;have hwr:w.heap.size+1<wr.heap.size:=(Array.getElem?_eq_some_iff.1 hK.out.n).1;by_cases hlt:j<n.names.length
       · obtain⟨b2,off2,cap2,e,_,_,hb2,_,hc⟩:=(HR.out.below hBr).at (by omega)
         injection e with e1 _ e2;subst e1;subst e2;have d1:wr.cell? ⟨b2,off2+j*2+1,none⟩=_:=hc (j*2+1) _ (ents_at1 n.names j hlt);obtain⟨f,hf⟩ : ∃f,f=n.names[j]:=⟨_,rfl⟩;rw[←hf]at d1;obtain⟨fx,fz⟩:=f;(have j0:(0:Int)≤(j:Int):=by omega);(have j1:(j:Int)<(n.names.length:Int):=by omega);have hz2:b2<wr.heap.size:=Nat.lt_of_lt_of_le hb2 hBr.size
         have hS : ∀W,Below wr.heap.size wr W→W.cell? ⟨w.heap.size,0,none⟩=some (.slice (some ⟨b,off,none⟩) ms.length cap)∧W.cell? ⟨w.heap.size,1,none⟩=some (.int .i64 most)∧W.cell? ⟨w.heap.size,2,none⟩=some (.int .i64 room)∧W.cell? ⟨w.heap.size+1,7,none⟩=some (.slice (some ⟨b2,off2,none⟩) n.names.length capn)∧W.cell? ⟨b2,off2+j*2+1,none⟩=some (.int .i64 fz) :=
          fun W hb=>⟨(hb.cell (p:=⟨w.heap.size,0,none⟩) (by show w.heap.size<_;omega)).trans p0,(hb.cell (p:=⟨w.heap.size,1,none⟩) (by show w.heap.size<_;omega)).trans p1,(hb.cell (p:=⟨w.heap.size,2,none⟩) (by show w.heap.size<_;omega)).trans p2,(hb.cell (p:=⟨w.heap.size+1,7,none⟩) hwr).trans q7,(hb.cell (p:=⟨b2,off2+j*2+1,none⟩) hz2).trans d1⟩
         have HG : ∀W,Below wr.heap.size wr W→Calls Tryz.prog 22 #[.agg #[.slice (some ⟨b,off,none⟩) ms.length cap, .int .i64 most, .int .i64 room], .int .i64 fz] W fun e w'=>GetIs (pl ms) fz e W w' :=
          fun W hb=>rget_any _ ms most room fz W (rdm_keep HV.out (ret_tr hBr hb)) (by omega)
         have HGG:=zd HG;have HSS:=zd hS;have HFe:=zd hf;have bw:Below wr.heap.size wr wr:=Below.refl _ _;clear hc hf hS HG;go_wp2_with fail
         go_region_held3 (fun W=>W.cell? ⟨w.heap.size,0,none⟩=some (.slice (some ⟨b,off,none⟩) ms.length cap)∧W.cell? ⟨w.heap.size,1,none⟩=some (.int .i64 most)∧W.cell? ⟨w.heap.size,2,none⟩=some (.int .i64 room)∧W.cell? ⟨w.heap.size+1,7,none⟩=some (.slice (some ⟨b2,off2,none⟩) n.names.length capn)∧W.cell? ⟨b2,off2+j*2+1,none⟩=some (.int .i64 fz))
          (first
            | exact HSS.out _ (by go_grown)
            | go_keep)
          (first
            | (go_at_call 22;(with_reducible refine(HGG.out _ (by go_grown)).mono ?_);intro e W4 hget;obtain⟨v4,rfl,hr4,hb4⟩:=hget;have bw4:Below wr.heap.size wr W4:=(ret_tr (w:=wr) (by go_grown) hb4);have sw4:=bw4.size;(try (have hz4:=(hb4.block wr.heap.size (by simp)).trans (heap_alloc_new wr _);have zf:=(fun i=>Lib.frozen_of_heap hz4 i);obtain⟨z0,z1,z2,z3,z4,z5,z6,z7⟩:=cells8 hz4));have hf4:=Rd.form hr4;obtain⟨ao4,cp4,ev4,_,_⟩:=hf4;have ev5:v4 = .slice ao4 (getL (pl ms) fz).names.length cp4:=ev4;subst ev5)
            | fail)
         all_goals
          refine gen_world (P:=fun W=>Exit.then _ _ _ _ W) (w:=wr) (by go_grown) ?_;intro W5 hb5;have hB5:=ret_tr hBr hb5;have hK5:=zd (hK.out.keep hb5);have t7:=(cells8 hK5.out.n).2.2.2.2.2.2.2;have d5:=(hb5.cell (p:=⟨b2,off2+j*2+1,none⟩) hz2).trans d1;clear hb4 bw4 sw4 hr4 ev4 p0 p1 p2 q0 q1 q2 q3 q4 q5 q6 q7 d1 HSS HGG bw
          cases hg:gotB (pl ms) fz with
          | false =>
             have HE:=zd (okR_nam (l:=pl ms) (k:=k) H0.out (nam_bad hlt (by rw[←HFe.out];unfold namB;rw[hg];rfl)));clear hg;go_wp2_with fail;go_ret;exact⟨ret_bool HE.out.symm,hB5⟩
          | true =>
             by_cases hz:fz=0
             · have hzI:(fz == 0)=true:=by simpa using hz
               have HE:=zd (okR_nam (l:=pl ms) (k:=k) H0.out (nam_bad hlt (by rw[←HFe.out];unfold namB;rw[hz];simp)));clear hg hz;go_wp2_with fail;go_ret;exact⟨ret_bool HE.out.symm,hB5⟩
             · have hzI:(fz == 0)=false:=by simpa using hz
               have HN2:=zd (nam_succ hN.out hlt (by rw[←HFe.out];unfold namB;rw[hg];simpa using hz));clear hg hz;go_wp2_with fail;go_roundw
               case rel=>exact⟨j+1,by go_num,hlt,HN2,hK5,hB5⟩
               case measure=>simp[intOf];omega
       · have hje:j=n.names.length:=by omega
         have HNE:=zd (nam_end hN.out hje);(have hI2:decide (j<n.names.length)=false:=by simp;omega);clear hje hlt;go_wp2_with fail;refine(names_any (.slice (some ⟨b,off,none⟩) ms.length cap) ms most room k wr (rdm_keep HV.out hBr) HS.out).mono ?_;intro e W2 hnm;obtain⟨rfl,hb2⟩:=hnm;have hB2:=ret_tr hBr hb2;have hK2:=zd (hK.out.keep hb2);clear p0 p1 p2 q0 q1 q2 q3 q4 q5 q6 q7;obtain⟨p0,p1,p2⟩:=cells3 hK2.out.d;obtain⟨q0,q1,q2,q3,q4,q5,q6,q7⟩:=cells8 hK2.out.n;have HL:Hid (okR (pl ms) k n=lastR (pl ms) k n (nmL (pl ms) k (0, -1))):=zd (okR_last H0.out HPL.out HX.out HSo.out HNE.out);generalize nmL (pl ms) k (0, -1)=s at *;obtain⟨x,y⟩:=s;clear hb2 hK hN;dsimp only;by_cases kz:k=0
         · have kI:((k:Int) == 0)=true:=by rw[beq_iff_eq];omega
           rw[lastR_0 kz]at HL
           cases hu:n.up == 0 with
           | false =>
              go_wp2_with fail;go_ret;exact⟨ret_bool (by rw[HL.out,g2,hu];rfl),hB2⟩
           | true =>
              go_wp2_with fail;go_ret;exact⟨ret_bool (by rw[HL.out,g2,hu];rfl),hB2⟩
         (have kI:((k:Int) == 0)=false:=by rw[beq_eq_false_iff_ne];omega);rw[lastR_n kz]at HL
         cases hli:n.links != (x:Int)with
         | true =>
            rw[hli,if_pos rfl]at HL;go_wp2_with fail;go_ret;exact⟨ret_bool HL.out.symm,hB2⟩
         | false =>
         rw[hli,if_neg (by decide)]at HL
         cases hx0:(x:Int) == 0 with
         | true =>
            rw[hx0]at HL
            cases ho:decide (n.opn<1)with
            | true =>
               rw[ho,if_pos (by rfl)]at HL;go_wp2_with fail;go_ret;exact⟨ret_bool HL.out.symm,hB2⟩
            | false =>
               rw[ho,if_neg (by simp)]at HL;rw[g1,if_neg (by decide),if_pos rfl]at HL
               cases hn0:(n.names.length:Int) == 0 with
               | false =>
                  rw[hn0]at HL;go_wp2_with fail;go_ret;exact⟨ret_bool (by rw[HL.out];rfl),hB2⟩
               | true =>
                  rw[hn0]at HL;go_wp2_with fail;go_ret;exact⟨ret_bool (by rw[HL.out];rfl),hB2⟩
         | false =>
            rw[hx0,if_neg (by simp)]at HL;rw[g1,if_neg (by decide),if_neg (by decide)]at HL
            cases hx1:(x:Int) == 1 with
            | false =>
               rw[hx1]at HL;go_wp2_with fail;go_ret;exact⟨ret_bool (by rw[HL.out];rfl),hB2⟩
            | true =>
               rw[hx1]at HL
               cases hy:n.up == y with
               | false =>
                  rw[hy]at HL;go_wp2_with fail;go_ret;exact⟨ret_bool (by rw[HL.out];rfl),hB2⟩
               | true =>
                  rw[hy,pl_len]at HL;go_wp2_with fail;refine(rooted_any (.slice (some ⟨b,off,none⟩) ms.length cap) ms most room k W2 (rdm_keep HV.out hB2) (by omega)).mono ?_;rintro e W3 ⟨rfl,hb3⟩;go_wp2_with fail;go_ret;exact⟨ret_bool (by rw[HL.out];rfl),ret_tr hB2 hb3⟩
 · have g1:(n.kind != 2)=true:=by simpa using e1
   (have g2:(n.kind == 2)=false:=by simpa using e1);(have g3:decide (0<n.names.length)=false:=by rw[e2];rfl);clear e1 e2;go_wp2_with fail;refine fresh2 (P:=fun W=>Calls _ _ _ W _) ?_;intro W0 hb0 hP hQ hs0;refine(HBH.out W0 hb0).mono ?_;rintro e W1 ⟨rfl,m1,rfl⟩;clear c0 c1 c2 c3 c4 c5 c6 c7 g3 hI0 hp0 hp1 hp2 hp3 hp4;have KC:=zd (show RtK w.heap.size (.slice (some ⟨b,off,none⟩) ms.length cap) most room n aon capn (W0.drewN m1)from⟨hP,hQ⟩);have hb1:Below w.heap.size w (W0.drewN m1):=below_drewN hb0 m1;have hs1:(W0.drewN m1).heap.size=w.heap.size+2:=hs0;clear hP hQ hb0 hs0;generalize W0.drewN m1=W1 at *
   cases hso:decide (SortedP n.names)with
   | false =>
      have HE:=zd (okR_sorted (l:=pl ms) (k:=k) H0.out hso);clear hso;go_wp2_with fail;go_ret;exact⟨ret_bool HE.out.symm,hb1⟩
   | true =>
      have HSo:=zd hso;clear hso;go_wp2_with fail;go_loopw [6] (fun i' wr=>∃j:Nat,i' = .int .i64 j∧j≤n.names.length∧Hid (NamTo (pl ms) n.names j)∧Hid (RtK w.heap.size (.slice (some ⟨b,off,none⟩) ms.length cap) most room n aon capn wr)∧Below w.heap.size w wr) (fun i' _=>n.names.length-(intOf i').toNat)
      case atStart=>exact⟨0,rfl,Nat.zero_le _,zd rfl,KC,hb1⟩
      case round =>
       obtain⟨j,rfl,hj,hN,hK,hBr⟩:=hrel;obtain⟨p0,p1,p2⟩:=cells3 hK.out.d;obtain⟨q0,q1,q2,q3,q4,q5,q6,q7⟩:=cells8 hK.out.n;have hwr:w.heap.size+1<wr.heap.size:=(Array.getElem?_eq_some_iff.1 hK.out.n).1;by_cases hlt:j<n.names.length
       · obtain⟨b2,off2,cap2,e,_,_,hb2,_,hc⟩:=(HR.out.below hBr).at (by omega)
         injection e with e1 _ e2;subst e1;subst e2;have d1:wr.cell? ⟨b2,off2+j*2+1,none⟩=_:=hc (j*2+1) _ (ents_at1 n.names j hlt);obtain⟨f,hf⟩ : ∃f,f=n.names[j]:=⟨_,rfl⟩;rw[←hf]at d1;obtain⟨fx,fz⟩:=f;(have j0:(0:Int)≤(j:Int):=by omega);(have j1:(j:Int)<(n.names.length:Int):=by omega);have hz2:b2<wr.heap.size:=Nat.lt_of_lt_of_le hb2 hBr.size
         have hS : ∀W,Below wr.heap.size wr W→W.cell? ⟨w.heap.size,0,none⟩=some (.slice (some ⟨b,off,none⟩) ms.length cap)∧W.cell? ⟨w.heap.size,1,none⟩=some (.int .i64 most)∧W.cell? ⟨w.heap.size,2,none⟩=some (.int .i64 room)∧W.cell? ⟨w.heap.size+1,7,none⟩=some (.slice (some ⟨b2,off2,none⟩) n.names.length capn)∧W.cell? ⟨b2,off2+j*2+1,none⟩=some (.int .i64 fz) :=
          fun W hb=>⟨(hb.cell (p:=⟨w.heap.size,0,none⟩) (by show w.heap.size<_;omega)).trans p0,(hb.cell (p:=⟨w.heap.size,1,none⟩) (by show w.heap.size<_;omega)).trans p1,(hb.cell (p:=⟨w.heap.size,2,none⟩) (by show w.heap.size<_;omega)).trans p2,(hb.cell (p:=⟨w.heap.size+1,7,none⟩) hwr).trans q7,(hb.cell (p:=⟨b2,off2+j*2+1,none⟩) hz2).trans d1⟩
         have HG : ∀W,Below wr.heap.size wr W→Calls Tryz.prog 22 #[.agg #[.slice (some ⟨b,off,none⟩) ms.length cap, .int .i64 most, .int .i64 room], .int .i64 fz] W fun e w'=>GetIs (pl ms) fz e W w' :=
          fun W hb=>rget_any _ ms most room fz W (rdm_keep HV.out (ret_tr hBr hb)) (by omega)
         have HGG:=zd HG;have HSS:=zd hS;have HFe:=zd hf;have bw:Below wr.heap.size wr wr:=Below.refl _ _;clear hc hf hS HG;go_wp2_with fail
         go_region_held3 (fun W=>W.cell? ⟨w.heap.size,0,none⟩=some (.slice (some ⟨b,off,none⟩) ms.length cap)∧W.cell? ⟨w.heap.size,1,none⟩=some (.int .i64 most)∧W.cell? ⟨w.heap.size,2,none⟩=some (.int .i64 room)∧W.cell? ⟨w.heap.size+1,7,none⟩=some (.slice (some ⟨b2,off2,none⟩) n.names.length capn)∧W.cell? ⟨b2,off2+j*2+1,none⟩=some (.int .i64 fz))
          (first
            | exact HSS.out _ (by go_grown)
            | go_keep)
          (first
            | (go_at_call 22;(with_reducible refine(HGG.out _ (by go_grown)).mono ?_);intro e W4 hget;obtain⟨v4,rfl,hr4,hb4⟩:=hget;have bw4:Below wr.heap.size wr W4:=(ret_tr (w:=wr) (by go_grown) hb4);have sw4:=bw4.size;(try (have hz4:=(hb4.block wr.heap.size (by simp)).trans (heap_alloc_new wr _);have zf:=(fun i=>Lib.frozen_of_heap hz4 i);obtain⟨z0,z1,z2,z3,z4,z5,z6,z7⟩:=cells8 hz4));have hf4:=Rd.form hr4;obtain⟨ao4,cp4,ev4,_,_⟩:=hf4;have ev5:v4 = .slice ao4 (getL (pl ms) fz).names.length cp4:=ev4;subst ev5)
            | fail)
         all_goals
          refine gen_world (P:=fun W=>Exit.then _ _ _ _ W) (w:=wr) (by go_grown) ?_;intro W5 hb5;have hB5:=ret_tr hBr hb5;have hK5:=zd (hK.out.keep hb5);have t7:=(cells8 hK5.out.n).2.2.2.2.2.2.2;have d5:=(hb5.cell (p:=⟨b2,off2+j*2+1,none⟩) hz2).trans d1;clear hb4 bw4 sw4 hr4 ev4 p0 p1 p2 q0 q1 q2 q3 q4 q5 q6 q7 d1 HSS HGG bw
          cases hg:gotB (pl ms) fz with
          | false =>
             have HE:=zd (okR_nam (l:=pl ms) (k:=k) H0.out (nam_bad hlt (by rw[←HFe.out];unfold namB;rw[hg];rfl)));clear hg;go_wp2_with fail;go_ret;exact⟨ret_bool HE.out.symm,hB5⟩
          | true =>
             by_cases hz:fz=0
             · have hzI:(fz == 0)=true:=by simpa using hz
               have HE:=zd (okR_nam (l:=pl ms) (k:=k) H0.out (nam_bad hlt (by rw[←HFe.out];unfold namB;rw[hz];simp)));clear hg hz;go_wp2_with fail;go_ret;exact⟨ret_bool HE.out.symm,hB5⟩
             · have hzI:(fz == 0)=false:=by simpa using hz
               have HN2:=zd (nam_succ hN.out hlt (by rw[←HFe.out];unfold namB;rw[hg];simpa using hz));clear hg hz;go_wp2_with fail;go_roundw
               case rel=>exact⟨j+1,by go_num,hlt,HN2,hK5,hB5⟩
               case measure=>simp[intOf];omega
       · have hje:j=n.names.length:=by omega
         have HNE:=zd (nam_end hN.out hje);(have hI2:decide (j<n.names.length)=false:=by simp;omega);clear hje hlt;go_wp2_with fail;refine(names_any (.slice (some ⟨b,off,none⟩) ms.length cap) ms most room k wr (rdm_keep HV.out hBr) HS.out).mono ?_;intro e W2 hnm;obtain⟨rfl,hb2⟩:=hnm;have hB2:=ret_tr hBr hb2;have hK2:=zd (hK.out.keep hb2);clear p0 p1 p2 q0 q1 q2 q3 q4 q5 q6 q7;obtain⟨p0,p1,p2⟩:=cells3 hK2.out.d;obtain⟨q0,q1,q2,q3,q4,q5,q6,q7⟩:=cells8 hK2.out.n;have HL:Hid (okR (pl ms) k n=lastR (pl ms) k n (nmL (pl ms) k (0, -1))):=zd (okR_last H0.out HPL.out HX.out HSo.out HNE.out);generalize nmL (pl ms) k (0, -1)=s at *;obtain⟨x,y⟩:=s;clear hb2 hK hN;dsimp only;by_cases kz:k=0
         · have kI:((k:Int) == 0)=true:=by rw[beq_iff_eq];omega
           rw[lastR_0 kz]at HL
           cases hu:n.up == 0 with
           | false =>
              go_wp2_with fail;go_ret;exact⟨ret_bool (by rw[HL.out,g2,hu];rfl),hB2⟩
           | true =>
              go_wp2_with fail;go_ret;exact⟨ret_bool (by rw[HL.out,g2,hu];rfl),hB2⟩
         (have kI:((k:Int) == 0)=false:=by rw[beq_eq_false_iff_ne];omega);rw[lastR_n kz]at HL
         cases hli:n.links != (x:Int)with
         | true =>
            rw[hli,if_pos rfl]at HL;go_wp2_with fail;go_ret;exact⟨ret_bool HL.out.symm,hB2⟩
         | false =>
         rw[hli,if_neg (by decide)]at HL
         cases hx0:(x:Int) == 0 with
         | true =>
            rw[hx0]at HL
            cases ho:decide (n.opn<1)with
            | true =>
               rw[ho,if_pos (by rfl)]at HL;go_wp2_with fail;go_ret;exact⟨ret_bool HL.out.symm,hB2⟩
            | false =>
               rw[ho,if_neg (by simp)]at HL;rw[g1,if_pos rfl]at HL;go_wp2_with fail;go_ret;exact⟨ret_bool HL.out.symm,hB2⟩
         | false =>
            rw[hx0,if_neg (by simp)]at HL;rw[g1,if_pos rfl]at HL;go_wp2_with fail;go_ret;exact⟨ret_bool HL.out.symm,hB2⟩
end Go.Proofs.YtmiekcdkamgknaaGreatDoor
