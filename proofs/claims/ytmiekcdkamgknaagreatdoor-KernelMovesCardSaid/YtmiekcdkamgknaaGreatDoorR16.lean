import Derived.Test.YtmiekcdkamgknaaGreatDoorR15
import Derived.Laws.IdiomCopy
import Derived.Lib.SliceRun
namespace Go.Proofs.YtmiekcdkamgknaaGreatDoor
open Go.RowKit Go.Shelf
attribute [local go_sem ↓] Go.wp_at_zero Go.wp_at_succ
def sameD (a b:List NodeL)(m1 r1 m2 r2:Int):Bool:=decide (m1=m2∧r1=r2∧a=b)
set_option maxRecDepth 100000 in
set_option maxHeartbeats 4000000 in
theorem sameD_any (va vb:Value)(la lb:List NodeM)(m1 r1 m2 r2:Int)(w:World)(ha:RdM w.heap.size va la w)(hb:RdM w.heap.size vb lb w)(hal:la.length≤10000)(hna : ∀n∈pl la,n.names.length≤10000)(hnb : ∀n∈pl lb,n.names.length≤10000) :
 Calls Tryz.prog 16 #[.agg #[va, .int .i64 m1, .int .i64 r1], .agg #[vb, .int .i64 m2, .int .i64 r2]] w fun e w'=>e = .returned (.bool (sameD (pl la) (pl lb) m1 r1 m2 r2))∧Below w.heap.size w w':=by
 obtain⟨aoa,capa,rfl,_,_⟩:=rdm_form ha;obtain⟨aob,capb,rfl,_,_⟩:=rdm_form hb;have HA:=Lib.hid ha;have HB:=Lib.hid hb;have HNA:=Lib.hid hna;have HNB:=Lib.hid hnb;clear ha hb hna hnb;have hb0:Below w.heap.size w ((w.alloc (.cells #[.slice aoa la.length capa, .int .i64 m1, .int .i64 r1] 48)).alloc (.cells #[.slice aob lb.length capb, .int .i64 m2, .int .i64 r2] 48)):=((Below.refl _ w).alloc (Nat.le_refl _) _).alloc (by simp) _;by_cases h1:m1=m2
 case neg =>
  (have hI:(m1 != m2)=true:=by simpa using h1);have HF:Hid (sameD (pl la) (pl lb) m1 r1 m2 r2=false):=Lib.hid (by unfold sameD;simp[h1]);clear h1;go_enter Tryz.func16,Tryz.ntmps16;go_wp2_with fail;go_ret;exact⟨ret_bool HF.out.symm,hb0⟩
 (have g1:(m1 != m2)=false:=by simpa using h1);by_cases h2:r1=r2
 case neg =>
  (have hI:(r1 != r2)=true:=by simpa using h2);have HF:Hid (sameD (pl la) (pl lb) m1 r1 m2 r2=false):=Lib.hid (by unfold sameD;simp[h2]);clear h1 h2;go_enter Tryz.func16,Tryz.ntmps16;go_wp2_with fail;go_ret;exact⟨ret_bool HF.out.symm,hb0⟩
 (have g2:(r1 != r2)=false:=by simpa using h2);by_cases h3:la.length=lb.length
 case neg =>
  (have hI:((la.length:Int) != (lb.length:Int))=true:=by rw[bne_iff_ne];omega);have HF:Hid (sameD (pl la) (pl lb) m1 r1 m2 r2=false):=Lib.hid (by unfold sameD;rw[decide_eq_false_iff_not];rintro⟨_,_,e⟩;exact h3 (by rw[←pl_len,e,pl_len]));clear h1 h2 h3;go_enter Tryz.func16,Tryz.ntmps16;go_wp2_with fail;go_ret;exact⟨ret_bool HF.out.symm,hb0⟩
 (have g3:((la.length:Int) != (lb.length:Int))=false:=by rw[h3];simp);have HE:Hid (sameD (pl la) (pl lb) m1 r1 m2 r2=decide (pl la=pl lb)):=Lib.hid (by unfold sameD;simp[h1,h2]);(have hle1:la.length≤lb.length:=by omega);(have hle2:lb.length≤la.length:=by omega);clear h1 h2 h3;clear hb0;go_enter Tryz.func16,Tryz.ntmps16;go_wp2_with fail;refine fresh2 (P:=fun W=>Code.wp _ _ _ _ W) ?_;intro W0 hb0 hP hR hs0;go_loopw [5] (fun i wr=>∃k:Nat,i = .int .i64 k∧k≤la.length∧Hid (sameTo (pl la) (pl lb) k)∧Below W0.heap.size W0 wr) (fun i _=>la.length-(intOf i).toNat)
 case atStart=>exact⟨0,rfl,Nat.zero_le _,Lib.hid rfl,Below.refl _ _⟩
 case round =>
  obtain⟨k,rfl,hk,hS,hBr⟩:=hrel;have hBw:Below w.heap.size w wr:=hb0.trans (hBr.mono (by omega));have p0:=(cells3 ((hBr.block _ (by omega)).trans hP)).1;have q0:=(cells3 ((hBr.block _ (by omega)).trans hR)).1;by_cases hlt:k<la.length
  · have hltb:k<lb.length:=by omega
    obtain⟨b,off,n,aon,capn,rfl,hb,hn, -,hrn,c0,c1,c2,c3,c4,c5,c6,c7⟩:=node_at (HA.out.below hBw) k hlt;obtain⟨b',off',n',aon',capn',rfl,hb',hn', -,hrn',d0,d1,d2,d3,d4,d5,d6,d7⟩:=node_at (HB.out.below hBw) k hltb;have hx1:=HNA.out n (by rw[←hn];exact List.getElem_mem _);have hx2:=HNB.out n' (by rw[←hn'];exact List.getElem_mem _);have HR1:Hid (RdNm wr.heap.size (n, .slice aon n.names.length capn) wr):=Lib.hid (Rd.mono hrn hBw.size);have HR2:Hid (RdNm wr.heap.size (n', .slice aon' n'.names.length capn') wr):=Lib.hid (Rd.mono hrn' hBw.size)
    have HL : ∀W,Below wr.heap.size wr W→Calls Tryz.prog 33 #[nval n (.slice aon n.names.length capn),nval n' (.slice aon' n'.names.length capn')] W fun e w'=>e = .returned (.bool (decide (n=n')))∧Below W.heap.size W w' :=
     fun W hb=>alike_any n n' _ _ W (rdnm_keep HR1.out hb) (rdnm_keep HR2.out hb) hx1 hx2
    (have k0:(0:Int)≤(k:Int):=by omega);(have k1:(k:Int)<(la.length:Int):=by omega);(have k2:(k:Int)<(lb.length:Int):=by omega);have HN:=Lib.hid (show n=(pl la)[k]'(by rw[pl_len];exact hlt)from hn.symm);have HN':=Lib.hid (show n'=(pl lb)[k]'(by rw[pl_len];exact hltb)from hn'.symm);clear hrn hrn' hn hn' hP hR;by_cases hq:n=n'
    · have hd:decide (n=n')=true:=by simpa using hq
      have hs':=Lib.hid (sameTo_succ hS.out (by rw[pl_len];exact hlt) (by rw[pl_len];exact hltb) (HN.out.symm.trans (hq.trans HN'.out)));rw[hd]at HL;clear hq hd;go_wp2_with fail;have cc0:=cell_regrown c0;have cc1:=cell_regrown c1;have cc2:=cell_regrown c2;have cc3:=cell_regrown c3;have cc4:=cell_regrown c4;have cc5:=cell_regrown c5;have cc6:=cell_regrown c6;have cc7:=cell_regrown c7;have dd0:=cell_regrown d0;have dd1:=cell_regrown d1;have dd2:=cell_regrown d2;have dd3:=cell_regrown d3;have dd4:=cell_regrown d4;have dd5:=cell_regrown d5;have dd6:=cell_regrown d6;have dd7:=cell_regrown d7;have pp0:=cell_regrown p0;have qq0:=cell_regrown q0;refine wp_region_quiet_below (by kernel_rfl) (by kernel_rfl) ?_
      repeat (go_big_quiet_step ((go_at_call 33;exact Calls.regrown_of (HL _ (below_regrown wr _ _)))))
      refine wpQuiet_nil ?_;clear cc0 cc1 cc2 cc3 cc4 cc5 cc6 cc7 dd0 dd1 dd2 dd3 dd4 dd5 dd6 dd7 pp0 qq0;intro _ hw';obtain⟨⟨dq,osq⟩,hw''⟩:=hw';have hbg:Below wr.heap.size wr _:=below_regrown wr dq osq;rw[←hw'']at hbg;clear hw'';rename_i W2;have hB2:=ret_tr hBr hbg;go_wp2_with fail;go_roundw
      case rel=>exact⟨k+1,by go_num,hlt,hs',hB2⟩
      case measure=>simp[intOf];omega
    · have hd:decide (n=n')=false:=by simpa using hq
      have HF:Hid (decide (pl la=pl lb)=false):=Lib.hid (by
       rw[decide_eq_false_iff_not];intro e;apply hq;rw[HN.out,HN'.out];simp only[e])
      rw[hd]at HL;clear hq hd;go_wp2_with fail;have cc0:=cell_regrown c0;have cc1:=cell_regrown c1;have cc2:=cell_regrown c2;have cc3:=cell_regrown c3;have cc4:=cell_regrown c4;have cc5:=cell_regrown c5;have cc6:=cell_regrown c6;have cc7:=cell_regrown c7;have dd0:=cell_regrown d0;have dd1:=cell_regrown d1;have dd2:=cell_regrown d2;have dd3:=cell_regrown d3;have dd4:=cell_regrown d4;have dd5:=cell_regrown d5;have dd6:=cell_regrown d6;have dd7:=cell_regrown d7;have pp0:=cell_regrown p0;have qq0:=cell_regrown q0;refine wp_region_quiet_below (by kernel_rfl) (by kernel_rfl) ?_
      repeat (go_big_quiet_step ((go_at_call 33;exact Calls.regrown_of (HL _ (below_regrown wr _ _)))))
      refine wpQuiet_nil ?_;clear cc0 cc1 cc2 cc3 cc4 cc5 cc6 cc7 dd0 dd1 dd2 dd3 dd4 dd5 dd6 dd7 pp0 qq0;intro _ hw';obtain⟨⟨dq,osq⟩,hw''⟩:=hw';have hbg:Below wr.heap.size wr _:=below_regrown wr dq osq;rw[←hw'']at hbg;clear hw'';rename_i W2;have hB2:=ret_tr hBr hbg;go_wp2_with fail;go_ret;exact⟨ret_bool (by rw[HE.out,HF.out]),hb0.trans (hB2.mono (by omega))⟩
  · have hke:k=la.length:=by omega
    have HF:Hid (decide (pl la=pl lb)=true):=Lib.hid (by
     rw[decide_eq_true_iff];have:=hS.out;unfold sameTo at this
     rwa [List.take_of_length_le (by rw[pl_len];omega),List.take_of_length_le (by rw[pl_len];omega)]at this)
    (have hI2:decide (k<la.length)=false:=by simp;omega);clear hke hlt;go_wp2_with fail;go_ret;exact⟨ret_bool (by rw[HE.out,HF.out]),hBw⟩
end Go.Proofs.YtmiekcdkamgknaaGreatDoor
namespace Go.Proofs.YtmiekcdkamgknaaGreatDoor
open Go.RowKit Go.Shelf
attribute [local go_sem ↓] Go.wp_at_zero Go.wp_at_succ
end Go.Proofs.YtmiekcdkamgknaaGreatDoor
namespace Go.Proofs.YtmiekcdkamgknaaGreatDoor
open Go.RowKit Go.Shelf
attribute [local go_sem ↓] Go.wp_at_zero Go.wp_at_succ
theorem infoNode:(Tryz.prog.info? 78).map (fun i=>(i.zero,i.size,i.bytes))=some (some (.agg #[.int .i64 0, .int .i64 0, .int .i64 0, .int .i64 0, .int .i64 0, .int .i64 0, .string ⟨#[]⟩, .slice none 0 0]),8,88):=by kernel_rfl
set_option maxRecDepth 100000 in
set_option maxHeartbeats 1000000 in
theorem clone_ents (v:Value)(l:List EntL)(w:World)(hv:Rd w.heap.size 2 v l.length (ents l) w)(hl:l.length≤10000) :
 Calls Tryz.prog 132 #[v] w fun e w'=>∃v',e = .returned v'∧w'.ownsRow w.heap.size 137 2 v' l.length (ents l)∧Below w.heap.size w w':=by
 obtain⟨i0,hi,hz0,hz1,hz2⟩:=info_parts infoEnt;(have qq : ∀(w:World) (a:Option Addr) (n c n' c':Nat),(binOp .eql 76 (.slice a n c) (.slice none n' c')).run Tryz.prog w = .ok (.bool a.isNone) w:=fun w a n c n' c'=>Lib.run_eql_slice_nil w _ _ a n c n' c' Tryz.underlying76);obtain⟨ao,cap,rfl,hc,hm,h0,hlen,_⟩:=id hv
 cases ao with
 | none =>
    obtain rfl:=h0 rfl;have hl0:l = []:=List.eq_nil_of_length_eq_zero (by omega);subst hl0;go_enter Tryz.func132,Tryz.ntmps132;go_wp2_with fail;go_ret;exact⟨_,rfl,World.ownsRow_nil _ _ _ _,Below.refl _ _⟩
 | some a =>
    have hba:Below w.heap.size w (w.alloc (.cells #[] 137)):=(Below.refl _ w).alloc (Nat.le_refl _) _;have HV:=Lib.hid (hv.below hba);clear hv;go_enter Tryz.func132,Tryz.ntmps132;go_wp2_with (at_builtin;go_loud (refine wpList_append_rd rfl (.tmp 5) (.tmp 6) 76 rfl w.heap.size 137 i0 _ 2 24 Tryz.underlying76 hi hz0 hz1 hz2 rfl (by decide) _ 0 [] rfl (World.ownsRow_lit (size:=2) w #[] 0 (Nat.le_refl _) (Nat.zero_le _) rfl) w.heap.size _ l.length (ents l) rfl HV.out (ents_one _) (by unfold maxLen;omega) (by omega) (by simp) ?_));intro v3 w3 ho3 hgr3;have hB3:Below w.heap.size w w3:=hba.grown hgr3 (by simp) (fun j ej=>by simp[Value.ownBlock]at ej;omega);go_wp2_with fail;go_ret;exact⟨_,rfl,ho3,hB3⟩
set_option maxRecDepth 100000 in
set_option maxHeartbeats 1000000 in
theorem clone_nodes (v:Value)(ms:List NodeM)(w:World)(hv:RdM w.heap.size v ms w)(hl:ms.length≤10000) :
 Calls Tryz.prog 179 #[v] w fun e w'=>∃v',e = .returned v'∧w'.ownsRow w.heap.size 78 8 v' ms.length (cellsN ms)∧Below w.heap.size w w':=by
 obtain⟨i0,hi,hz0,hz1,hz2⟩:=info_parts infoNode;(have qq : ∀(w:World) (a:Option Addr) (n c n' c':Nat),(binOp .eql 22 (.slice a n c) (.slice none n' c')).run Tryz.prog w = .ok (.bool a.isNone) w:=fun w a n c n' c'=>Lib.run_eql_slice_nil w _ _ a n c n' c' Tryz.underlying22);obtain⟨ao,cap,rfl,hc,hm,h0,hlen,_⟩:=id hv.1
 cases ao with
 | none =>
    obtain rfl:=h0 rfl;have hl0:ms = []:=List.eq_nil_of_length_eq_zero (by omega);subst hl0;go_enter Tryz.func179,Tryz.ntmps179;go_wp2_with fail;go_ret;exact⟨_,rfl,World.ownsRow_nil _ _ _ _,Below.refl _ _⟩
 | some a =>
    have hba:Below w.heap.size w (w.alloc (.cells #[] 78)):=(Below.refl _ w).alloc (Nat.le_refl _) _;have HV:=Lib.hid (hv.1.below hba);have HO:=Lib.hid (cellsN_one hv.one);clear hv;go_enter Tryz.func179,Tryz.ntmps179;go_wp2_with (at_builtin;go_loud (refine wpList_append_rd rfl (.tmp 5) (.tmp 6) 22 rfl w.heap.size 78 i0 _ 8 88 Tryz.underlying22 hi hz0 hz1 hz2 rfl (by decide) _ 0 [] rfl (World.ownsRow_lit (size:=8) w #[] 0 (Nat.le_refl _) (Nat.zero_le _) rfl) w.heap.size _ ms.length (cellsN ms) rfl HV.out HO.out (by unfold maxLen;omega) (by omega) (by simp) ?_));intro v3 w3 ho3 hgr3;have hB3:Below w.heap.size w w3:=hba.grown hgr3 (by simp) (fun j ej=>by simp[Value.ownBlock]at ej;omega);go_wp2_with fail;go_ret;exact⟨_,rfl,ho3,hB3⟩
set_option maxRecDepth 100000 in
set_option maxHeartbeats 1000000 in
theorem own_any (n:NodeL)(v:Value)(w:World)(hv:RdNm w.heap.size (n,v) w)(hl:n.names.length≤10000) :
 Calls Tryz.prog 90 #[nval n v] w fun e w'=>∃v',e = .returned (nval n v')∧w'.ownsRow w.heap.size 137 2 v' n.names.length (ents n.names)∧Below w.heap.size w w':=by
 obtain⟨ao,cap,e,_,_⟩:=Rd.form hv;have e':v = .slice ao n.names.length cap:=e;subst e';have HV:Hid (Rd w.heap.size 2 (.slice ao n.names.length cap) n.names.length (ents n.names) w):=Lib.hid hv;clear hv e;go_enter Tryz.func90,Tryz.ntmps90;go_wp2_with fail;refine fresh2 (P:=fun W=>Calls _ _ _ W _) ?_;intro W0 hb0 hP hR hs0;refine(clone_ents (.slice ao n.names.length cap) n.names W0 (rd_keep HV.out hb0) hl).mono ?_;rintro e W1 ⟨v1,rfl,ho1,hb1⟩;have hP1:=(hb1.block _ (by omega)).trans hP;have hR1:=(hb1.block _ (by omega)).trans hR;have hB1:=ret_tr hb0 hb1;obtain⟨ao1,cap1,rfl⟩:=own_form ho1;obtain⟨p0,p1,p2,p3,p4,p5,p6,p7⟩:=cells8 hP1;obtain⟨q0,q1,q2,q3,q4,q5,q6,q7⟩:=cells8 hR1;(have pf:=fun j=>Lib.frozen_of_heap hP1 j);(have rf:=fun j=>Lib.frozen_of_heap hR1 j);clear hb0 hP hR hb1;go_wp2_with fail;have hRs:=(Below.heap_setCell W1 ⟨w.heap.size,7,none⟩ (.slice ao1 n.names.length cap1) (w.heap.size+1) (by show w.heap.size+1≠w.heap.size;omega)).trans hR1;have ho2:=ownsRow_set (b:=w.heap.size) (i:=7) (u:= .slice ao1 n.names.length cap1) ho1 (by omega);have hB2:=hB1.setCell (p:=⟨w.heap.size,7,none⟩) (Nat.le_refl _) (.slice ao1 n.names.length cap1);refine sets8 (P:=fun W=>bodyPost _ _ _ _ _ W) hRs ?_;intro W3 hb3 hg3 hs3 hR3;refine bodyPost_ret (results_cell_row (p:=2) (ty:=78) rfl _ W3 (w.heap.size+1) _ _ _ _ rfl hR3 Tryz.underlying78 rfl (by kernel_rfl)) rfl ?_;exact⟨_,rfl,own_mono (ownsRow_other ho2 fun g hg=>hg3 g (by omega)) (by omega),hB2.trans (hb3.mono (by omega))⟩
theorem setM (B:Nat){g cap:Nat}{ms:List NodeM}{m:NodeM}{k:Nat}{W:World}(h:RdM B (.slice (some ⟨g,0,none⟩) ms.length cap) ms W)(hk:k<ms.length)(hm:RdNm B m W)(hf : ∀x∈ms,∀a n c,x.2 = .slice (some a) n c→0<n→a.block≠g)(hmf : ∀a n c,m.2 = .slice (some a) n c→0<n→a.block≠g) :
 RdM B (.slice (some ⟨g,0,none⟩) ms.length cap) (ms.set k m) (W.setCells g (k*8) (ncells m)):=by
 have other : ∀(x:NodeM),RdNm B x W→(∀a n c,x.2 = .slice (some a) n c→0<n→a.block≠g)→RdNm B x (W.setCells g (k*8) (ncells m)):=by
  intro x hx hne;obtain⟨ao,cp,e,hc,hm,hz,hl,h⟩:=id hx;refine⟨ao,cp,e,hc,hm,hz,hl,fun hn=> ?_⟩;obtain⟨b,off,e2,hlt,hcc⟩:=h hn;refine⟨b,off,e2,hlt,fun j u hu=> ?_⟩;rw[World.cell?_setCells_out]
  · exact hcc j u hu
  · intro e3
    exact absurd e3 (hne ⟨b,off,none⟩ _ _ (by rw[e,e2]) hn)
 refine⟨?_,fun x hx=> ?_⟩
 · obtain⟨ao,cp,e,hc,hm,hz,hl,h⟩:=id h.1
   rw[List.length_set];refine⟨ao,cp,e,hc,hm,hz,by rw[cellsN_len,List.length_set],fun hn=> ?_⟩;obtain⟨b,off,e2,hlt,hcc⟩:=h hn;subst e2;injection e with e3 _ _;injection e3 with e3;injection e3 with e3 e4 _;subst e3 e4;refine⟨_,_,rfl,hlt,fun j u hu=> ?_⟩;rw[cellsN_set ms k hk]at hu;have hc8:(ncells m).length=8:=rfl;split at hu
   · rename_i hj
     have hj2:j-k*8<(ncells m).length:=by omega
     have hi:=World.cell?_setCells_in g (ncells m) (k*8) W (fun r hr=>by
      have h1:(cellsN ms)[k*8+r]? = some ((cellsN ms)[k*8+r]'(by rw[cellsN_len];omega)):=List.getElem?_eq_getElem _;have:=hcc (k*8+r) _ h1;rw[Nat.zero_add]at this;rw[this]
      rfl) (j-k*8) hj2
     rw[Nat.zero_add];rw[show k*8+(j-k*8)=j by omega]at hi;rw[hi,←hu,List.getElem?_eq_getElem hj2]
   · rename_i hj
     rw[World.cell?_setCells_out]
     · exact hcc j u hu
     · intro _ _
       show 0+j<k*8∨k*8+(ncells m).length≤0+j;omega
 · rcases List.mem_or_eq_of_mem_set hx with hx | rfl
   · exact other x (h.2 x hx) (hf x hx)
   · exact other _ hm hmf
def Avoid (g:Nat)(v:Value):Prop:=∀a n' c,v = .slice (some a) n' c→0<n'→a.block≠g
def AvoidM (g:Nat)(v:Value)(ms:List NodeM):Prop:=Avoid g v∧∀x∈ms,Avoid g x.2
theorem rd_far {B size n g:Nat}{v:Value}{xs:List Value}{W:World}(h:Rd B size v n xs W)(hg:B≤g) : ∀a n' c,v = .slice (some a) n' c→0<n'→a.block≠g:=by
 rintro a n' c rfl hn;obtain⟨ao,cp,e,_,_,_,_,h⟩:=h;injection e with e1 e2 _;obtain⟨b,off,e3,hlt,_⟩:=h (by omega);rw[←e1]at e3;injection e3 with e3;subst e3;show b≠g;omega
theorem own_far {W:World}{base g:Nat}{e:TypeId}{size n:Nat}{v:Value}{xs:List Value}(h:W.ownsRow base e size v n xs)(hg:g<base) : ∀a n' c,v = .slice (some a) n' c→0<n'→a.block≠g:=by
 rintro a n' c rfl _;have:=(h.lt a.block rfl).1;omega
theorem heap_setCells (b k:Nat)(hk:k≠b) : ∀(vs:List Value) (o:Nat) (W:World),(W.setCells b o vs).heap[k]? = W.heap[k]?
 | [],_,_=>rfl
 | v::r,o,W=>by rw[World.setCells,heap_setCells b k hk r (o+1),Below.heap_setCell _ _ _ k hk]
theorem size_setCells (b:Nat) : ∀(vs:List Value) (o:Nat) (W:World),(W.setCells b o vs).heap.size=W.heap.size
 | [],_,_=>rfl
 | v::r,o,W=>by rw[World.setCells,size_setCells b r (o+1)];simp
theorem below_setCells (B b:Nat)(hB:B≤b) : ∀(vs:List Value) (o:Nat) (W:World),Below B W (W.setCells b o vs)
 | [],_,W=>Below.refl _ _
 | v::r,o,W=>by
    rw[World.setCells];exact((Below.refl B W).setCell (p:=⟨b,o,none⟩) hB v).trans (below_setCells B b hB r (o+1) _)
theorem sets8o {P:World→Prop}{W:World}{g o:Nat}{u0 u1 u2 u3 u4 u5 u6 u7:Value}(h : ∀W',W'=W.setCells g o [u0,u1,u2,u3,u4,u5,u6,u7]→P W') :
 P ((((((((W.setCell ⟨g,o,none⟩ u0).setCell ⟨g,o+1,none⟩ u1).setCell ⟨g,o+2,none⟩ u2).setCell ⟨g,o+3,none⟩ u3).setCell ⟨g,o+4,none⟩ u4).setCell ⟨g,o+5,none⟩ u5).setCell ⟨g,o+6,none⟩ u6).setCell ⟨g,o+7,none⟩ u7):=h _ rfl
theorem rd_other {B size n g:Nat}{v:Value}{xs:List Value}{W W':World}(h:Rd B size v n xs W)(hf : ∀a n' c,v = .slice (some a) n' c→0<n'→a.block≠g)(hg : ∀k,k≠g→W'.heap[k]? = W.heap[k]?):Rd B size v n xs W':=by
 obtain⟨ao,cp,e,hc,hm,hz,hl,h⟩:=id h;refine⟨ao,cp,e,hc,hm,hz,hl,fun hn=> ?_⟩;obtain⟨b,off,e2,hlt,hcc⟩:=h hn;refine⟨b,off,e2,hlt,fun j u hu=> ?_⟩;rw[World.cell?_of_block (a:=⟨b,off+j,none⟩) (hg b (hf ⟨b,off,none⟩ _ _ (by rw[e,e2]) hn))];exact hcc j u hu
theorem rdm_other {B g:Nat}{v:Value}{ms:List NodeM}{W W':World}(h:RdM B v ms W)(hf : ∀a n' c,v = .slice (some a) n' c→0<n'→a.block≠g)(hfm : ∀x∈ms,∀a n' c,x.2 = .slice (some a) n' c→0<n'→a.block≠g)(hg : ∀k,k≠g→W'.heap[k]? = W.heap[k]?):RdM B v ms W' :=
 ⟨rd_other h.1 hf hg,fun m hm=>rd_other (h.2 m hm) (hfm m hm) hg⟩
def SetK (b:Nat)(u0 c0 c1 c2 c3 c4 c5 c6 c7:Value)(W:World):Prop :=
 b+1<W.heap.size∧W.cell? ⟨b,0,none⟩=some u0∧W.cell? ⟨b+1,0,none⟩=some c0∧W.cell? ⟨b+1,1,none⟩=some c1∧W.cell? ⟨b+1,2,none⟩=some c2∧W.cell? ⟨b+1,3,none⟩=some c3∧W.cell? ⟨b+1,4,none⟩=some c4∧W.cell? ⟨b+1,5,none⟩=some c5∧W.cell? ⟨b+1,6,none⟩=some c6∧W.cell? ⟨b+1,7,none⟩=some c7
theorem SetK.keep {b:Nat}{u0 c0 c1 c2 c3 c4 c5 c6 c7:Value}{W W':World}(h:SetK b u0 c0 c1 c2 c3 c4 c5 c6 c7 W)(hb:Below W.heap.size W W'):SetK b u0 c0 c1 c2 c3 c4 c5 c6 c7 W':=by
 obtain⟨h,g0,g1,g2,g3,g4,g5,g6,g7,g8⟩:=h;have:=hb.size;refine⟨by omega,(hb.cell (by show b<_;omega)).trans g0,(hb.cell h).trans g1,(hb.cell h).trans g2,(hb.cell h).trans g3,(hb.cell h).trans g4,(hb.cell h).trans g5,(hb.cell h).trans g6,(hb.cell h).trans g7,(hb.cell h).trans g8⟩
theorem SetK.cells {b:Nat}{u0 c0 c1 c2 c3 c4 c5 c6 c7:Value}{W:World}(h:SetK b u0 c0 c1 c2 c3 c4 c5 c6 c7 W):W.cell? ⟨b,0,none⟩=some u0∧W.cell? ⟨b+1,0,none⟩=some c0∧W.cell? ⟨b+1,1,none⟩=some c1∧W.cell? ⟨b+1,2,none⟩=some c2∧W.cell? ⟨b+1,3,none⟩=some c3∧W.cell? ⟨b+1,4,none⟩=some c4∧W.cell? ⟨b+1,5,none⟩=some c5∧W.cell? ⟨b+1,6,none⟩=some c6∧W.cell? ⟨b+1,7,none⟩=some c7:=h.2
theorem SetK.of {b:Nat}{u0 u1 u2 c0 c1 c2 c3 c4 c5 c6 c7:Value}{t t':TypeId}{W:World}(h:W.heap[b]? = some (.cells #[u0,u1,u2] t (0,0)))(h':W.heap[b+1]? = some (.cells #[c0,c1,c2,c3,c4,c5,c6,c7] t' (0,0))):SetK b u0 c0 c1 c2 c3 c4 c5 c6 c7 W :=
 ⟨(Array.getElem?_eq_some_iff.1 h').1,(cells3 h).1,cells8 h'⟩
theorem eight0 {B g cap:Nat}{ms:List NodeM}{W:World}(h:Rd B 8 (.slice (some ⟨g,0,none⟩) ms.length cap) ms.length (cellsN ms) W)(k:Nat)(hk:k<ms.length) :
 W.cell? ⟨g,k*8,none⟩=some (.int .i64 ms[k].1.kind)∧W.cell? ⟨g,k*8+1,none⟩=some (.int .i64 ms[k].1.mode)∧W.cell? ⟨g,k*8+2,none⟩=some (.int .i64 ms[k].1.owner)∧W.cell? ⟨g,k*8+3,none⟩=some (.int .i64 ms[k].1.links)
 ∧ W.cell? ⟨g,k*8+4,none⟩=some (.int .i64 ms[k].1.opn)∧W.cell? ⟨g,k*8+5,none⟩=some (.int .i64 ms[k].1.up)∧W.cell? ⟨g,k*8+6,none⟩=some (.string (bs ms[k].1.data))∧W.cell? ⟨g,k*8+7,none⟩=some ms[k].2:=by
 obtain⟨b,off,cap',e,_,_,_,_,hc⟩:=h.at (by omega);injection e with e1 _ _;injection e1 with e1;injection e1 with e1 e2 _;subst e1 e2;have:=eight hc k hk;simpa using this
theorem pl_set (ms:List NodeM)(k:Nat)(m:NodeM):pl (ms.set k m)=(pl ms).set k m.1:=by simp[pl,List.map_set]
def SetIs (v:Value)(ms:List NodeM)(most room i:Int)(n:NodeL)(e:Ending)(w w':World):Prop :=
 ∃v' ms',e = .returned (.agg #[v', .int .i64 most, .int .i64 room])∧pl ms'=setL (pl ms) i n∧RdM w'.heap.size v' ms' w'∧Below w.heap.size w w'∧∀g,g<w.heap.size→AvoidM g v ms→AvoidM g v' ms'
set_option maxRecDepth 100000 in
set_option maxHeartbeats 4000000 in
theorem set_any (v:Value)(ms:List NodeM)(most room i:Int)(n:NodeL)(vn:Value)(w:World)(hv:RdM w.heap.size v ms w)(hl:ms.length≤10000)(hn:RdNm w.heap.size (n,vn) w)(hnl:n.names.length≤10000) :
 Calls Tryz.prog 137 #[.agg #[v, .int .i64 most, .int .i64 room], .int .i64 i,nval n vn] w fun e w'=>SetIs v ms most room i n e w w':=by
 obtain⟨ao,cap,rfl,_,_⟩:=rdm_form hv;obtain⟨aon,capn,e,_,_⟩:=Rd.form hn;have e':vn = .slice aon n.names.length capn:=e;subst e';have HV:=Lib.hid hv;have HN:=Lib.hid hn;clear hv hn e
 have hret : ∀(W:World) (cs:Array Value) (fr),W.heap[w.heap.size+2]? = some (.cells cs 24 fr)→cs.size=3→∀tmps:Array Value,tmps.getD 6 undef = .pointer (some ⟨w.heap.size+2,0,none⟩)→(results Tryz.f137 tmps).run Tryz.prog W = .ok (.agg cs) W:=fun W cs fr h hs tmps ht =>
  results_cell_row (p:=6) (ty:=24) rfl tmps W (w.heap.size+2) _ cs fr _ ht h Tryz.underlying24 rfl (by rw[hs];kernel_rfl)
 cases hi:inL (pl ms) i with
 | false =>
    have HI:=Lib.hid hi;have HS:Hid (pl ms=setL (pl ms) i n):=Lib.hid (by unfold setL;rw[hi];rfl);clear hi;go_enter Tryz.func137,Tryz.ntmps137;go_wp2_with fail;refine fresh3 (P:=fun W=>Calls _ _ _ W _) ?_;intro W0 hb0 hP hQ hR hs0;refine(has_any (pl ms) ao ms.length cap most room i _ (pl_len ms).symm (by omega)).mono ?_;rintro e W1 ⟨rfl,hb1⟩;rw[HI.out];have hP1:=(hb1.block _ (by omega)).trans hP;have hR1:=(hb1.block _ (by omega)).trans hR;have hB1:=ret_tr hb0 hb1;have hs1:=hb1.size;obtain⟨p0,p1,p2⟩:=cells3 hP1;obtain⟨q0,q1,q2⟩:=cells3 hR1;(have rf:=fun j=>Lib.frozen_of_heap hR1 j);clear hP hQ hR hb0 hb1;go_wp2_with fail;refine sets3 (P:=fun W=>bodyPost _ _ _ _ _ W) hR1 ?_;intro W3 hb3 hg3 hs3 hR3;refine bodyPost_ret (hret _ _ _ hR3 rfl _ rfl) rfl ?_;have hB3:=hB1.trans (hb3.mono (by omega));exact⟨_,ms,rfl,HS.out,rdm_keep HV.out hB3,hB3,fun _ _ h=>h⟩
 | true =>
    obtain⟨k,rfl,hk⟩:=in_nat hi;rw[pl_len]at hk;have HI:=Lib.hid hi;have HS:Hid ((pl ms).set k n=setL (pl ms) (k:Int) n):=Lib.hid (by unfold setL;rw[hi];rfl);clear hi;go_enter Tryz.func137,Tryz.ntmps137;go_wp2_with fail;refine fresh3 (P:=fun W=>Calls _ _ _ W _) ?_;intro W0 hb0 hP hQ hR hs0;refine(has_any (pl ms) ao ms.length cap most room k _ (pl_len ms).symm (by omega)).mono ?_;rintro e W1 ⟨rfl,hb1⟩;rw[HI.out];have hP1:=(hb1.block _ (by omega)).trans hP;have hQ1:=(hb1.block _ (by omega)).trans hQ;have hR1:=(hb1.block _ (by omega)).trans hR;have hB1:=ret_tr hb0 hb1;have hs1:=hb1.size;obtain⟨p0,p1,p2⟩:=cells3 hP1;clear hP hQ hR hb0 hb1;go_wp2_with fail;refine(clone_nodes (.slice ao ms.length cap) ms W1 (rdm_keep HV.out hB1) hl).mono ?_;rintro e W2 ⟨v2,rfl,ho2,hb2⟩;clear p0 p1 p2;have hP2:=(hb2.block _ (by omega)).trans hP1;have hQ2:=(hb2.block _ (by omega)).trans hQ1;have hR2:=(hb2.block _ (by omega)).trans hR1;have hB2:=ret_tr hB1 hb2;have hs2:=hb2.size;obtain⟨p0,p1,p2⟩:=cells3 hP2;(have pf:=fun j=>Lib.frozen_of_heap hP2 j);obtain⟨ao2,cap2,rfl⟩:=own_form ho2;clear hP1 hQ1 hR1 hB1 hb2;go_wp2_with fail;have hP3:=heap_set (i:=0) (u:= .slice ao2 ms.length cap2) hP2;have hQ3:=(Below.heap_setCell W2 ⟨w.heap.size,0,none⟩ (.slice ao2 ms.length cap2) (w.heap.size+1) (by show w.heap.size+1≠w.heap.size;omega)).trans hQ2;have hR3:=(Below.heap_setCell W2 ⟨w.heap.size,0,none⟩ (.slice ao2 ms.length cap2) (w.heap.size+2) (by show w.heap.size+2≠w.heap.size;omega)).trans hR2
    have ho3:=ownsRow_set (b:=w.heap.size) (i:=0) (u:= .slice ao2 ms.length cap2) ho2 (by omega);have hB3:=hB2.setCell (p:=⟨w.heap.size,0,none⟩) (Nat.le_refl _) (.slice ao2 ms.length cap2);(have hs3:(W2.setCell ⟨w.heap.size,0,none⟩ (.slice ao2 ms.length cap2)).heap.size=W2.heap.size:=by simp);clear hP2 hQ2 hR2 ho2 hB2 p0 p1 p2 pf;generalize W2.setCell ⟨w.heap.size,0,none⟩ (.slice ao2 ms.length cap2)=W3 at *;have HO3:=Lib.hid ho3;obtain⟨g,cap3,cur,hrow,hg0,hheap, -, -, -, -⟩:=ho3.2.resolve_left (fun h=>by have:=h.2;omega);injection hrow with e1 _ e2;subst e1;subst e2;have hgn:g<W3.drew.heap.size:=(Array.getElem?_eq_some_iff.1 hheap).1;have HRo:Hid (Rd W3.drew.heap.size 8 (.slice (some ⟨g,0,none⟩) ms.length cap2) ms.length (cellsN ms) W3.drew):=Lib.hid (Rd.own ho3 (Nat.le_refl _));have HN3:Hid (RdNm W3.drew.heap.size (n, .slice aon n.names.length capn) W3.drew):=Lib.hid (rdnm_keep HN.out hB3.drew);have kc:SetK w.heap.size (.slice (some ⟨g,0,none⟩) ms.length cap2) (.int .i64 n.kind) (.int .i64 n.mode) (.int .i64 n.owner) (.int .i64 n.links) (.int .i64 n.opn) (.int .i64 n.up) (.string (bs n.data)) (.slice aon n.names.length capn) W3.drew:=SetK.of hP3 hQ3;have hhd:W3.drew.heap[g]? = some (.cells cur 78 (0,0)):=hheap;have c0:=kc.cells.1;(have k0:(0:Int)≤(k:Int):=by omega);(have k1:(k:Int)<(ms.length:Int):=by omega);(have gne:g≠w.heap.size:=by omega);(have gne1:g≠w.heap.size+1:=by omega);have HR3:=Lib.hid hR3
    have HP3:=Lib.hid hP3;clear hP3 hQ3 hR3 hheap ho3;clear gne gne1;obtain⟨-,d0,d1,d2,d3,d4,d5,d6,d7⟩:=kc.cells
    go_region_law
     ((go_simp;go_at_call 90;with_reducible refine(own_any n (.slice aon n.names.length capn) _ HN3.out hnl).mono ?_;rintro e W4 ⟨vn',rfl,hoN,hbN⟩;have kc4:=kc.keep hbN;have c04:=kc4.cells.1;have hf4:=Lib.frozen_of_heap ((hbN.block g hgn).trans hhd);obtain⟨s0,s1,s2,s3,s4,s5,s6,s7⟩:=eight0 (HRo.out.below hbN) k hk;obtain⟨aon',capn',rfl⟩:=own_form hoN))
    all_goals
     refine sets8o (P:=fun W=>Exit.then _ _ _ _ W) ?_;intro W5 e5;have hB4:Below w.heap.size w W4:=hB3.trans (drew_below hbN (by omega));have hm4:RdM W4.heap.size (.slice (some ⟨g,0,none⟩) ms.length cap2) ms W4:=⟨(HRo.out.below hbN).mono hbN.size,(rdm_keep HV.out hB4).2⟩;have hn4:RdNm W4.heap.size (n, .slice aon' n.names.length capn') W4:=Rd.own hoN (Nat.le_refl _)
     have hm5:RdM W4.heap.size (.slice (some ⟨g,0,none⟩) ms.length cap2) (ms.set k (n, .slice aon' n.names.length capn')) W5:=by
      rw[e5];exact setM _ hm4 hk hn4 (fun x hx=>rd_far (HV.out.2 x hx) (by omega)) (own_far hoN hgn)
     (have hs5:W5.heap.size=W4.heap.size:=by rw[e5,size_setCells]);have hP5:=(show W5.heap[w.heap.size]? = W4.heap[w.heap.size]? by rw[e5,heap_setCells _ _ (by omega)]).trans ((hbN.block _ (show w.heap.size<W3.drew.heap.size by show _<W3.heap.size;omega)).trans HP3.out);have hR5:=(show W5.heap[w.heap.size+2]? = W4.heap[w.heap.size+2]? by rw[e5,heap_setCells _ _ (by omega)]).trans ((hbN.block _ (show w.heap.size+2<W3.drew.heap.size by show _<W3.heap.size;omega)).trans HR3.out);(have hB5:Below w.heap.size w W5:=by rw[e5];exact hB4.trans (below_setCells _ _ (by omega) _ _ _));clear e5 hf4 s0 s1 s2 s3 s4 s5 s6 s7 kc kc4 c04 d0 d1 d2 d3 d4 d5 d6 d7 c0;obtain⟨p0,p1,p2⟩:=cells3 hP5;obtain⟨q0,q1,q2⟩:=cells3 hR5;(have rf:=fun j=>Lib.frozen_of_heap hR5 j);go_wp2_with fail;refine sets3 (P:=fun W=>bodyPost _ _ _ _ _ W) hR5 ?_;intro W6 hb6 hg6 hs6 hR6;refine bodyPost_ret (hret _ _ _ hR6 rfl _ rfl) rfl ?_;(have gx:g≠w.heap.size+2:=by omega);refine⟨_,ms.set k (n, .slice aon' n.names.length capn'),rfl,(pl_set ms k (n, .slice aon' n.names.length capn')).trans HS.out,?_,hB5.trans (hb6.mono (by omega)),fun q hq hav=> ?_⟩
     · have hne : ∀x∈ms.set k (n, .slice aon' n.names.length capn'),Avoid (w.heap.size+2) x.2:=fun x hx=>by
        rcases List.mem_or_eq_of_mem_set hx with hx | rfl
        · exact rd_far (HV.out.2 x hx) (by omega)
        · exact own_far hoN (by show w.heap.size+2<W3.heap.size;omega)
       rw[hs6,hs5];exact rdm_other hm5 (by intro a n' c e _;injection e with e _ _;injection e with e;rw[←e];exact gx) hne hg6
     · refine⟨by intro a n' c e _;injection e with e _ _;injection e with e;rw[←e];show g≠q;omega,fun x hx=> ?_⟩
       rcases List.mem_or_eq_of_mem_set hx with hx | rfl
       · exact hav.2 x hx
       · exact own_far hoN (by show q<W3.heap.size;omega)
end Go.Proofs.YtmiekcdkamgknaaGreatDoor
