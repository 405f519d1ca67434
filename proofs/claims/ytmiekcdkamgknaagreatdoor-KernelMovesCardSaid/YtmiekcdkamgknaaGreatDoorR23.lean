import Derived.Test.YtmiekcdkamgknaaGreatDoorR22
import Derived.StillTailTactics
import Derived.Deep.LoopGhost
import Derived.Test.YtmiekcdkamgknaaGreatDoorR17
import Derived.Test.YtmiekcdkamgknaaGreatDoorR13
import Derived.Test.YtmiekcdkamgknaaGreatDoorR21
import Derived.Test.YtmiekcdkamgknaaGreatDoorR19
import Derived.Deep.RegionHeld3
import Derived.BigQuiet
namespace Go.Proofs.YtmiekcdkamgknaaGreatDoor
open Go.RowKit Go.Shelf
attribute [local go_sem ↓] Go.wp_at_zero Go.wp_at_succ
theorem grown_below_b {b:Nat}{w w':World}(h:w.grownBy w' (some b))(hb:b≤w.heap.size):Below b w w':=⟨h.os,h.tape,h.output,h.size,fun k hk=>h.block k (by omega) (by intro e;cases e;omega)⟩
theorem WayM.setSpot {b:Nat}{F:WayF}{i:Int}{vl:Value}{left:List Str}{hops:Nat}{sp:SpotL}{W:World}(h:WayM b F i vl left hops sp W)(x:Int)(y:Str)(z:Int)(u:Bool) :
 WayM b F i vl left hops ⟨x,y,z,u⟩ ((((W.setCell ⟨b,9,none⟩ (.int .i64 x)).setCell ⟨b,10,none⟩ (.string (bs y))).setCell ⟨b,11,none⟩ (.int .i64 z)).setCell ⟨b,12,none⟩ (.bool u)) :=
 ⟨(heap_set (heap_set (heap_set (heap_set h.blk)))).trans (by simp),rd_grown h.lft (grown_sc (grown_sc (grown_sc (grown_set _ ⟨b,9,none⟩ _) _) _) _) h.far,h.far⟩
theorem grown_spot {b:Nat}{W W':World}(h:W.grownBy W' (some b))(x:Int)(y:Str)(z:Int)(u:Bool):W.grownBy ((((W'.setCell ⟨b,9,none⟩ (.int .i64 x)).setCell ⟨b,10,none⟩ (.string (bs y))).setCell ⟨b,11,none⟩ (.int .i64 z)).setCell ⟨b,12,none⟩ (.bool u)) (some b) :=
 grown_sc (grown_sc (grown_sc (grown_sc h _) _) _) _
set_option maxRecDepth 100000 in
set_option maxHeartbeats 4000000 in
theorem step_any (b:Nat)(F:WayF)(i:Int)(vl:Value)(rest:List Str)(hops:Nat)(sp:SpotL)(p:Str)(ms:List NodeM)(w:World)(hw:WayM b F i vl rest hops sp w)(hv:RdM b F.nodes ms w)(hd:DskOk ms)
 (hh:hops≤8) (hdl : ∀n∈pl ms,n.data.length≤10000) (hrl:rest.length≤9999) :
 Calls Tryz.prog 201 #[.pointer (some ⟨b,0,none⟩), .string (bs p)] w fun e w'=>StepIs (pl ms) b F ((8-hops)*101+rest.length+1) (goW (pl ms) F.who F.follow F.slash i (p::rest) hops) e w w':=by
 have hbl:=hw.lt;have HW:=Lib.hid hw;have HV:=Lib.hid hv;have HD:=Lib.hid (dir_any b F i vl rest hops sp ms w hw (hv.mono (Nat.le_of_lt hbl)) hd);clear hw hv;go_enter Tryz.func201,Tryz.ntmps201;go_wp2_with fail;refine HD.out.mono ?_;rintro e w1 (⟨hne,rfl,hb1⟩ | ⟨h0,v,rfl,hr1,hb1⟩)
 · have HR:Hid (goW (pl ms) F.who F.follow F.slash i (p::rest) hops=(zeroS,dirE (pl ms) i)):=Lib.hid (go_dir hne)
   have HNE:=Lib.hid hne;generalize dirE (pl ms) i=x at *;clear hne;go_wp2_with fail;refine fresh1 (P:=fun W=>bodyPost _ _ _ _ _ W) ?_;intro W5 hb5 hn5 hs5;go_ret;exact .inl ⟨x,HR.out,HNE.out,rfl,grown_bel (ret_tr hb1 hb5)⟩
 · have H0:=Lib.hid h0
   have hso:=(right_sorted hd.right i).2;have hnl:=hd.names i;obtain⟨n,hn⟩ : ∃n,n=nodeL (pl ms) i:=⟨_,rfl⟩;have HN:=Lib.hid hn;rw[←hn]at hr1 hso hnl ⊢;obtain⟨ao1,cp1,e1,_,_⟩:=Rd.form hr1;have e1':v = .slice ao1 n.names.length cp1:=e1;subst e1';have HSo:=Lib.hid hso;have HR1:=Lib.hid hr1;clear h0 hn hso hr1 e1;have hW1:=HW.out.keep hb1;have HW1:=Lib.hid hW1;clear hW1;go_wp2_with fail;refine fresh1 (P:=fun W=>Code.wp _ _ _ _ W) ?_;intro W2 hb2 hn2 hs2;have hW2:=HW1.out.keep hb2;have HW2:=Lib.hid hW2;have HB2:=Lib.hid (ret_tr hb1 hb2);have HR2:=Lib.hid (rdnm_keep HR1.out hb2);have HN2:=Lib.hid hn2;have hbl2:=hW2.lt;obtain⟨c0,c1,c2,c3,c4,c5,c6,c7,c8,c9,c10,c11,c12⟩:=cells13 hW2.blk;obtain⟨n0,n1,n2,n3,n4,n5,n6,n7⟩:=cells8 hn2;(have hlt2:w1.heap.size<W2.heap.size:=by omega);have hblg:b<w1.heap.size:=HW1.out.lt;clear hW2 hn2 HR1 HW1 hb1 hb2 hs2 HD;have HMay:Hid (mayAt (pl ms) F.who i=mayB n.mode n.owner F.who 1):=Lib.hid (by unfold mayAt;rw[←HN.out]);(have HMB:=fun w=>may_any n.mode n.owner F.who 1 w);obtain⟨g,hg⟩ : ∃g,g=w1.heap.size:=⟨_,rfl⟩;rw[←hg]at n0 n1 n2 n3 n4 n5 n6 n7 hlt2 HN2 hblg ⊢;clear hg
   cases hm:mayB n.mode n.owner F.who 1 with
   | false =>
      rw[hm]at HMB;have HR:Hid (goW (pl ms) F.who F.follow F.slash i (p::rest) hops=(zeroS,7)):=Lib.hid (go_may H0.out (by rw[HMay.out,hm]));clear hm;go_quiet ((go_at_call 166;exact Calls.quiet_of_same ((HMB _).mono fun e w' h=>⟨h.1,h.2.symm⟩)));go_wp2_with fail;go_ret;exact .inl ⟨7,HR.out,by decide,rfl,grown_bel (below_drewN HB2.out _)⟩
   | true =>
      rw[hm]at HMB;have HMt:=Lib.hid (show mayAt (pl ms) F.who i=true by rw[HMay.out,hm]);clear hm;go_quiet ((go_at_call 166;exact Calls.quiet_of_same ((HMB _).mono fun e w' h=>⟨h.1,h.2.symm⟩)));go_wp2_with fail;refine(named_any b F i vl rest hops sp n _ p _ (HW2.out.keep (below_drewN (Below.refl _ _) _)) HR2.out hnl HSo.out).mono ?_;rintro e w3 ⟨rfl,hb3⟩;have hB3:=ret_tr (below_drewN HB2.out _) hb3;have hW3:=HW.out.keep hB3;have HW3:=Lib.hid hW3;have HB3:=Lib.hid hB3;clear c0 c1 c2 c3 c4 c5 c6 c7 c8 c9 c10 c11 c12 n0 n1 n2 n3 n4 n5 n6 n7;obtain⟨c0,c1,c2,c3,c4,c5,c6,c7,c8,c9,c10,c11,c12⟩:=cells13 hW3.blk;(have rf:=fun j=>Lib.frozen_of_heap hW3.blk j);clear hW3 hB3 hb3;go_wp2_with fail;go_still_tail 14,(by kernel_rfl);(have hlk:lookN i n p=lookL (pl ms) i p:=by rw[HN.out];rfl);rw[hlk];clear hlk;change wpList _ _ _ _ _ w3.drew;have hWs:=(HW3.out.keep ((Below.refl _ w3).drew)).setSpot i p (lookL (pl ms) i p) F.slash;have hgs:=grown_spot (grown_bel (row:=some b) (HB3.out.drew)) i p (lookL (pl ms) i p) F.slash;have hVs:=(HV.out.below (grown_below_b hgs (Nat.le_of_lt hbl))).mono (Nat.le_of_lt hWs.lt)
      have HE:Hid (Calls Tryz.prog 218 #[.pointer (some ⟨b,0,none⟩), .int .i64 (lookL (pl ms) i p)] ((((w3.drew.setCell ⟨b,9,none⟩ (.int .i64 i)).setCell ⟨b,10,none⟩ (.string (bs p))).setCell ⟨b,11,none⟩ (.int .i64 (lookL (pl ms) i p))).setCell ⟨b,12,none⟩ (.bool F.slash)) fun e w'=>StepIs (pl ms) b F ((8-hops)*101+rest.length+1) (goW (pl ms) F.who F.follow F.slash i (p::rest) hops) e w w'):=Lib.hid (by
       cases rest with
       | nil=>exact(enter_last b F i vl p hops ms _ hWs hVs hd H0.out HMt.out hh hdl).mono fun e w' h=>h.from hgs
       | cons q r=>exact(enter_more b F i vl p q r hops ms _ hWs hVs hd H0.out HMt.out hh hdl (by simp at hrl;omega)).mono fun e w' h=>h.from hgs)
      generalize lookL (pl ms) i p=j at *;have c9':w3.drew.cell? ⟨b,9,none⟩=_:=c9;have c10':w3.drew.cell? ⟨b,10,none⟩=_:=c10;have c11':w3.drew.cell? ⟨b,11,none⟩=_:=c11;have c12':w3.drew.cell? ⟨b,12,none⟩=_:=c12;have rf' : ∀j,w3.drew.frozen? ⟨b,j,none⟩=false:=rf;clear hWs hgs hVs c0 c1 c2 c3 c4 c5 c6 c7 c8 c9 c10 c11 c12 rf;generalize w3.drew=w4 at *;go_wp2_with fail;refine HE.out.mono ?_;intro e w5 h;obtain⟨v5,rfl,_,hst⟩:=h.ends;have HST:=Lib.hid hst;clear h hst;go_wp2_with fail;go_ret;exact HST.out
end Go.Proofs.YtmiekcdkamgknaaGreatDoor
namespace Go.Proofs.YtmiekcdkamgknaaGreatDoor
open Go.RowKit Go.Shelf
attribute [local go_sem ↓] Go.wp_at_zero Go.wp_at_succ
theorem sizeStrW (w:World):(sizeOf 9).run Tryz.prog w = .ok 1 w:=by kernel_rfl
theorem far_cut {ao:Option Addr}{n cap k b:Nat}(h:(Value.slice ao n cap).ownBlock≠some b)(n' cap':Nat):(Value.slice (cutA ao k cap) n' cap').ownBlock≠some b:=by
 intro e;apply h;unfold cutA at e;split at e
 · cases ao with
   | none=>cases e
   | some a=>exact e
 · cases ao with
   | none=>cases e
   | some a =>
      (have:(a.add k).block=a.block:=by cases k<;>simp[Addr.add]);simp only[Option.map_some,Value.ownBlock,this]at e;exact e
theorem WayM.setLeft {b:Nat}{F:WayF}{i:Int}{vl:Value}{left:List Str}{hops:Nat}{sp:SpotL}{W:World}(h:WayM b F i vl left hops sp W)(v':Value)(left':List Str)(hl:Rd W.heap.size 1 v' left'.length (strs left') W)(hf:v'.ownBlock≠some b):WayM b F i v' left' hops sp (W.setCell ⟨b,7,none⟩ v') :=
 ⟨(heap_set h.blk).trans (by simp),rd_grown hl (grown_set _ ⟨b,7,none⟩ _) hf,hf⟩
def ErrOf (n:Int)(v:Value):Prop:=v=faultV n∨∃p,v=lostV p n
def GoIs (b:Nat)(F:WayF)(R:ResL)(e:Ending)(w w':World):Prop :=
 (∃n v,R=(zeroS,n)∧n≠0∧ErrOf n v∧e = .returned v∧w.grownBy w' (some b))∨(∃i left hops sp,R=(sp,0)∧GoesOn b F i left hops sp e w w')
theorem no_parts {path:Str}(h:checkE path=0)(hp:parts path = []):Lib.hasPrefix path [47]=true∧Lib.hasSuffix path [47]=true:=by
 (have hne:path≠ []:=by rintro rfl;cases h);have hall:=spans_none (l:=path) (by simpa[parts]using hp);constructor
 · rw[pre_eq]
   cases path with
   | nil=>exact absurd rfl hne
   | cons c r =>
      have:=hall 0 (Nat.le_refl _) (by simp);simp at this;simp[this]
 · rw[suf_eq _ hne,beq_iff_eq]
   have h1:0<path.length:=List.length_pos_iff.2 hne;have:=hall (path.length-1) (Nat.zero_le _) (by omega);rw[List.getElem?_eq_getElem (by omega)]at this;rw[List.getLast_eq_getElem];exact Option.some.inj this
set_option maxRecDepth 100000 in
set_option maxHeartbeats 4000000 in
theorem goAll_R (R:ResL)(b:Nat)(F:WayF)(fr:Int)(vl:Value)(sp:SpotL)(path:Str)(ms:List NodeM)(w:World)(hw:WayM b F fr vl [] 0 sp w)(hv:RdM b F.nodes ms w)(hd:DskOk ms)
 (hdl : ∀n∈pl ms,n.data.length≤10000) (hpl:path.length≤10000) (hsl:F.slash=Lib.hasSuffix path [47]) (hR:R=walkL (pl ms) F.who fr path F.follow) :
 Calls Tryz.prog 175 #[.pointer (some ⟨b,0,none⟩), .string (bs path)] w fun e w'=>GoIs b F R e w w':=by
 have hbl:=hw.lt;have HV:=Lib.hid hv;have HS:=Lib.hid hsl;have HRR:=Lib.hid hR;have HT:=Lib.hid (take_any b F fr vl [] 0 sp path w hw (by simp) hpl);clear hw hv hsl hR;go_enter Tryz.func175,Tryz.ntmps175;go_wp2_with fail;refine HT.out.mono ?_;intro e w1 h;rcases h with⟨hn,rfl,hg⟩ | ⟨hc,vl1,rfl,hw1,hg⟩
 · have HR:Hid (R=(zeroS,checkE path)):=Lib.hid (by rw[HRR.out];unfold walkL;rw[if_pos hn])
   have HN:=Lib.hid hn;generalize checkE path=n at *;clear hn;go_wp2_with fail;go_ret;exact .inl ⟨n,_,HR.out,HN.out, .inl rfl,rfl,hg⟩
 · rw[List.append_nil]at hw1
   have HC:=Lib.hid hc;obtain⟨ao1,cp1,rfl,_,_⟩:=hw1.lft.form;have HW1:=Lib.hid hw1;have HG1:=Lib.hid hg;obtain⟨c0,c1,c2,c3,c4,c5,c6,c7,c8,c9,c10,c11,c12⟩:=cells13 hw1.blk;have hbl1:=hw1.lt;by_cases h0:(parts path).length=0
   · have hp0:parts path = []:=List.eq_nil_of_length_eq_zero h0
     (have hI:(((parts path).length:Int) == 0)=true:=by rw[h0];rfl);obtain⟨g1,g2⟩:=no_parts hc hp0;(have hf0:firstAt fr path=0:=by unfold firstAt;rw[if_pos g1]);have hrt:=(right_root hd.right).1
     have HR:Hid (R=(⟨0,[],0,F.slash⟩,0)):=Lib.hid (by
      rw[HRR.out];unfold walkL
      rw[if_neg (by simp[hc]),if_pos hp0,hf0,if_neg (by simp[hrt]),HS.out,g2])
     have HD:=dir_any b F (firstAt fr path) (.slice ao1 (parts path).length cp1) (parts path) 0 ⟨0,[],0,F.slash⟩ ms w1 hw1 ((HV.out.below (grown_below_b hg (Nat.le_of_lt hbl))).mono (Nat.le_of_lt hbl1)) hd;rw[hf0]at HD;have HRT:=Lib.hid hrt;have HDD:=Lib.hid HD;have hlen0:(parts path).length=0:=h0;clear hp0 h0 g1 g2 hrt HD hw1 hg hc;go_wp2_with fail;refine HDD.out.mono ?_;rintro e w2 (⟨hne,_⟩ | ⟨h0,v,rfl,hr2,hb2⟩)
     · exact absurd HRT.out hne
     · obtain⟨ao2,cp2,e2,_,_⟩:=Rd.form hr2
       have e2':v = .slice ao2 (nodeL (pl ms) 0).names.length cp2:=e2;subst e2';have HB2:=Lib.hid hb2;clear h0 hr2 e2 hb2;generalize nodeL (pl ms) 0=n at *;go_wp2_with fail;refine fresh1 (P:=fun W=>bodyPost _ _ _ _ _ W) ?_;intro W5 hb5 hn5 hs5;go_ret;have hbb:=ret_tr HB2.out hb5;exact .inr ⟨_,_,_,_,HR.out,_,rfl,HW1.out.keep hbb,grown_tr HG1.out (grown_bel hbb)⟩
   · have hI:(((parts path).length:Int) == 0)=false:=by rw[beq_eq_false_iff_ne];omega
     have hp0:parts path≠ []:=fun e=>h0 (by rw[e];rfl)
     have hfin:finL (pl ms) F (firstAt fr path) (parts path) 0 ⟨0,[],0,F.slash⟩=R:=by
      unfold finL;rw[if_neg hp0,HRR.out];unfold walkL;rw[if_neg (by simp[hc]),if_neg hp0,HS.out]
     (have hM:(8-0)*101+(parts path).length≤2000:=by have:=parts_le path;have:=check_len hc;omega);have HF:=Lib.hid hfin;have HM:=Lib.hid hM;clear hfin hp0 hc hg hw1 hM;go_wp2_with fail;clear c0 c1 c2 c3 c4 c5 c6 c7 c8 c9 c10 c11 c12;go_loopg [8] ((8-0)*101+(parts path).length) (fun k _ wr=>∃(i:Int) (vl:Value) (left:List Str) (hops:Nat) (sp:SpotL),k=(8-hops)*101+left.length∧k≤2000∧hops≤8∧Hid (WayM b F i vl left hops sp wr)∧Hid (finL (pl ms) F i left hops sp=R)∧Hid (w.grownBy wr (some b)))
     case atStart=>exact⟨_,_,_,0,_,rfl,HM.out,Nat.zero_le _,HW1,HF,HG1⟩
     case round =>
      obtain⟨i,vl2,left,hops,sp2,hk,hk2,hh,hW,hFi,hG⟩:=hrel;obtain⟨ao,cap,e,_,_⟩:=hW.out.lft.form;subst e;obtain⟨c0,c1,c2,c3,c4,c5,c6,c7,c8,c9,c10,c11,c12⟩:=cells13 hW.out.blk;(have rf:=fun j=>Lib.frozen_of_heap hW.out.blk j);have hblr:=hW.out.lt
      cases left with
      | nil =>
         have HFi:Hid (R=(sp2,0)):=Lib.hid (by rw[←hFi.out];rfl);clear hk hk2 hFi;go_wp2_with fail;go_ret;exact .inr ⟨i,[],hops,sp2,HFi.out,_,rfl,hW.out,hG.out⟩
      | cons p rest =>
         have hr0:=hW.out.lft;obtain⟨bl,off,cap',e,hcn,hcm,hbb,_,hcc⟩:=hr0.at (by simp);injection e with e1 _ e2;subst e1;subst e2;have d0:wr.cell? ⟨bl,off,none⟩=some (.string (bs p)):=by have:=hcc 0 (.string (bs p)) rfl;simpa using this
         have hsl : ∀w,(Instr.slice 36 (.slice (some ⟨bl,off,none⟩) (rest.length+1) cap) (some (.int .i64 1)) none none).run Tryz.prog w = .ok (.slice (cutA (some ⟨bl,off,none⟩) 1 cap) rest.length (cap-1)) w:=fun w =>
          run_cut 36 9 (some ⟨bl,off,none⟩) (rest.length+1) cap 1 1 w Tryz.underlying36 (sizeStrW w) rfl (by omega)
         have hrt:=hr0.tail 1 (by simp)
         have hrt':Rd wr.heap.size 1 (.slice (cutA (some ⟨bl,off,none⟩) 1 cap) rest.length (cap-1)) rest.length (strs rest) wr:=by
          (have h1:(p::rest).length-1=rest.length:=by simp);have h2:(strs (p::rest)).drop 1=strs rest:=rfl;rw[h1,h2]at hrt;exact hrt
         have hfar:=far_cut (k:=1) hW.out.far rest.length (cap-1);have hW2:=hW.out.setLeft _ rest hrt' hfar;have hgs:w.grownBy (wr.setCell ⟨b,7,none⟩ (.slice (cutA (some ⟨bl,off,none⟩) 1 cap) rest.length (cap-1))) (some b):=grown_sc hG.out _;have hkl:(p::rest).length=rest.length+1:=rfl;(have hrl:rest.length≤2000:=by rw[hkl]at hk;omega);have hVs:=HV.out.below (grown_below_b hgs (Nat.le_of_lt hbl));(have hst:=(step_any b F i _ rest hops sp2 p ms _ hW2 hVs hd hh hdl (by omega)).mono fun e w' h=>h.from hgs);(have hRg:goW (pl ms) F.who F.follow F.slash i (p::rest) hops=R:=by rw[←hFi.out];rfl);rw[hRg]at hst;have HST:=Lib.hid hst;(have hpos:(0:Int)<((p::rest).length:Int):=by rw[hkl];omega);(have hl1:(p::rest).length-1=rest.length:=by simp);have HK:=Lib.hid hk;clear hst hRg hVs hW2 hgs hrt hrt' hr0 hcc hk hFi hkl;go_wp2_with fail;refine HST.out.mono ?_;intro e w5 h;rcases h with⟨n,hR5,hn5,rfl,hg5⟩ | ⟨i5,left5,hops5,sp5,⟨vl5,rfl,hw5,hg5⟩,hf5,hh5,hm5⟩
         · have HR5:=Lib.hid hR5
           have HN5:=Lib.hid hn5;clear hR5 hn5;go_wp2_with fail;go_ret;exact .inl ⟨n,_,HR5.out,HN5.out, .inr ⟨bs p,rfl⟩,rfl,hg5⟩
         · have HW5:=Lib.hid hw5
           have HF5:=Lib.hid hf5;have HM5:Hid ((8-hops5)*101+left5.length<gk):=Lib.hid (by rw[HK.out];exact hm5);clear hw5 hf5 hm5;go_wp2_with fail;go_roundg ((8-hops5)*101+left5.length)
           case measure=>exact HM5.out
           case rel=>exact⟨i5,vl5,left5,hops5,sp5,rfl,by have:=HM5.out;omega,hh5,HW5,HF5,Lib.hid hg5⟩
theorem goAll_any (b:Nat)(F:WayF)(fr:Int)(vl:Value)(sp:SpotL)(path:Str)(ms:List NodeM)(w:World)(hw:WayM b F fr vl [] 0 sp w)(hv:RdM b F.nodes ms w)(hd:DskOk ms)
 (hdl : ∀n∈pl ms,n.data.length≤10000) (hpl:path.length≤10000) (hsl:F.slash=Lib.hasSuffix path [47]) :
 Calls Tryz.prog 175 #[.pointer (some ⟨b,0,none⟩), .string (bs path)] w fun e w'=>GoIs b F (walkL (pl ms) F.who fr path F.follow) e w w' :=
 goAll_R _ b F fr vl sp path ms w hw hv hd hdl hpl hsl rfl
end Go.Proofs.YtmiekcdkamgknaaGreatDoor
namespace Go.Proofs.YtmiekcdkamgknaaGreatDoor
open Go.RowKit Go.Shelf
attribute [local go_sem ↓] Go.wp_at_zero Go.wp_at_succ
abbrev spotV (s:SpotL):Value:= .agg #[.int .i64 s.dir, .string (bs s.name), .int .i64 s.ino, .bool s.slash]
def WalkIs (R:ResL)(e:Ending)(w w':World):Prop:=e = .returned (.tuple #[spotV R.1, .int .i64 R.2])∧Below w.heap.size w w'
def WNodeIs (R:ResL)(e:Ending)(w w':World):Prop:=e = .returned (.tuple #[.int .i64 (wnodeL R).1, .int .i64 (wnodeL R).2])∧Below w.heap.size w w'
structure DskW (ms:List NodeM):Prop where
 ok:DskOk ms
 dat : ∀n∈pl ms,n.data.length≤10000
theorem DskW.len {ms:List NodeM}(hd:DskW ms)(i:Int):(nodeL (pl ms) i).data.length≤10000:=by
 cases hg:gotB (pl ms) i with
 | false=>unfold nodeL;rw[hg];exact Nat.zero_le _
 | true =>
    obtain⟨k,rfl,hlt,hn,_,_⟩:=right_ok hd.ok.right hg;rw[hn];exact hd.dat _ (List.getElem_mem hlt)
theorem cells4 {W:World}{b:Nat}{u0 u1 u2 u3:Value}{t:TypeId}{f:Nat × Nat}(h:W.heap[b]? = some (.cells #[u0,u1,u2,u3] t f)) :
 W.cell? ⟨b,0,none⟩=some u0∧W.cell? ⟨b,1,none⟩=some u1∧W.cell? ⟨b,2,none⟩=some u2∧W.cell? ⟨b,3,none⟩=some u3:=by
 refine⟨?_,?_,?_,?_⟩<;>(rw[Lib.cell_of_heap h];rfl)
theorem grown_below_b' {b B:Nat}{w w':World}(h:w.grownBy w' (some b))(hb:B≤b)(hw:B≤w.heap.size):Below B w w':=⟨h.os,h.tape,h.output,h.size,fun k hk=>h.block k (by omega) (by intro e;cases e;omega)⟩
theorem fresh1d {P:World→Prop}{w:World}{A:Obj}(h : ∀W,Below w.heap.size w W→W.heap[w.heap.size]? = some A→W.heap.size=w.heap.size+1→P W):P (w.alloc A).drew :=
 h _ ((Below.refl _ w).alloc (Nat.le_refl _) _).drew (heap_alloc_new w A) (by simp)
set_option maxRecDepth 100000 in
set_option maxHeartbeats 4000000 in
theorem walk_R (R:ResL)(v:Value)(ms:List NodeM)(most room who fr:Int)(path:Str)(follow:Bool)(w:World)(hv:RdM w.heap.size v ms w)(hd:DskW ms)(hpl:path.length≤10000)
 (hg:w.cell? ⟨0,0,none⟩=some errTypeV) (hR:R=walkL (pl ms) who fr path follow) :
 Calls Tryz.prog 133 #[.agg #[v, .int .i64 most, .int .i64 room], .int .i64 who, .int .i64 fr, .string (bs path), .bool follow] w fun e w'=>WalkIs R e w w':=by
 obtain⟨aod,capd,rfl,_,_⟩:=rdm_form hv;have HV:=Lib.hid hv;have hglt:=World.block_lt_of_cell? w _ hg;have HGl:=Lib.hid hg;have HR:=Lib.hid hR
 have hret : ∀(W:World) (cs:Array Value) (fr),W.heap[w.heap.size+1]? = some (.cells cs 202 fr)→cs.size=4→∀tmps:Array Value,tmps.getD 10 undef = .pointer (some ⟨w.heap.size+1,0,none⟩)→(results Tryz.f133 tmps).run Tryz.prog W = .ok (.tuple #[.agg cs,tmps.getD 11 undef]) W:=fun W cs fr h hs tmps ht =>
  results_ct (p:=10) (u:=11) (ty:=202) rfl tmps W (w.heap.size+1) _ cs fr _ ht h Tryz.underlying202 rfl (by rw[hs];kernel_rfl)
 have HRET:=Lib.hid hret;clear hv hg hR hret;go_enter Tryz.func133,Tryz.ntmps133;go_wp2_with fail;refine fresh2 (P:=fun W=>Code.wp _ _ _ _ W) ?_;intro W0 hb0 hP hQ hs0;obtain⟨p0,p1,p2⟩:=cells3 hP;(have hsz:(bs path).size≤9223372036854775807:=by rw[bs_size];omega);(have hS : ∀W,Below W0.heap.size W0 W→W.cell? ⟨w.heap.size,0,none⟩=some (.slice aod ms.length capd)∧W.cell? ⟨w.heap.size,1,none⟩=some (.int .i64 most)∧W.cell? ⟨w.heap.size,2,none⟩=some (.int .i64 room):=fun W hb=>cells3 ((hb.block _ (by omega)).trans hP));have HSS:=Lib.hid hS;clear hS p0 p1 p2
 go_region_held3 (fun W=>W.cell? ⟨w.heap.size,0,none⟩=some (.slice aod ms.length capd)∧W.cell? ⟨w.heap.size,1,none⟩=some (.int .i64 most)∧W.cell? ⟨w.heap.size,2,none⟩=some (.int .i64 room))
  (first
    | exact HSS.out _ (by go_grown)
    | go_keep)
  (first
    | (go_at_call 174;(with_reducible refine(Tryz.strings_HasSuffix _ _ _ hsz).mono ?_);rintro e w' ⟨rfl,rfl⟩)
    | fail)
 all_goals
  refine fresh1d (P:=fun W=>Exit.then _ _ _ _ W) ?_;intro W1 hb1 hW1 hs1;rw[hs0]at hW1;have hB1:=ret_tr hb0 hb1;have hway:WayM (w.heap.size+2) ⟨.slice aod ms.length capd,most,room,who,follow,Lib.hasSuffix path [47]⟩ fr (.slice none 0 0) [] 0 ⟨0,[],0,false⟩ W1:=⟨hW1,Rd.none0 _ _ _,fun e=>by cases e⟩;have hvb:RdM (w.heap.size+2) (.slice aod ms.length capd) ms W1:=(HV.out.below hB1).mono (by omega);have HGo:=Lib.hid (goAll_any (w.heap.size+2) ⟨.slice aod ms.length capd,most,room,who,follow,Lib.hasSuffix path [47]⟩ fr (.slice none 0 0) ⟨0,[],0,false⟩ path ms W1 hway hvb hd.ok hd.dat hpl rfl);have hQ1:=Lib.hid ((hb1.block _ (by omega)).trans hQ);clear hway hvb hW1 HSS hb1;go_wp2_with fail;refine HGo.out.mono ?_;intro e w2 h;rcases h with⟨n,v,hRn,hn,herr,rfl,hgr⟩ | ⟨i2,left2,hops2,sp2,hRn,vl2,rfl,hw2,hgr⟩
  · have HRn:Hid (R=(zeroS,n)):=Lib.hid (HR.out.trans hRn)
    have hB2:Below w.heap.size w w2:=hB1.trans (grown_below_b' hgr (by omega) (by omega));have hQ2:=(hgr.block (w.heap.size+1) (by omega) (by simp)).trans hQ1.out;have hg2:=(hB2.cell (p:=⟨0,0,none⟩) hglt).trans HGl.out;have hs2:=hgr.size;have hNum:=number_any v n w2 herr hg2;have HNum:=Lib.hid hNum;have HB2:=Lib.hid hB2;have HQ2:=Lib.hid hQ2
    have hvi : ∃ty d,v = .iface ty d:=by
     rcases herr with rfl | ⟨p,rfl⟩
     · exact⟨_,_,rfl⟩
     · exact⟨_,_,rfl⟩
    obtain⟨ty,d,rfl⟩:=hvi;clear hRn hn herr hgr hB2 hQ2 hg2 hNum hB1 hQ1 HGo hb0 hP hQ;go_wp2_with fail;refine HNum.out.mono ?_;rintro e w3 ⟨rfl,hb3⟩;have hQ3:=(hb3.block _ (by omega)).trans HQ2.out;obtain⟨q0,q1,q2,q3⟩:=cells4 hQ3;(have rf:=fun j=>Lib.frozen_of_heap hQ3 j);go_wp2_with fail;refine post_sets4 hQ3 ?_;intro W4 hb4 hg4 hs4 hR4;refine bodyPost_ret (HRET.out _ _ _ hR4 rfl _ rfl) rfl ?_;exact⟨by rw[HRn.out];rfl,(ret_tr HB2.out hb3).trans (hb4.mono (by omega))⟩
  · have HRn:Hid (R=(sp2,0)):=Lib.hid (HR.out.trans hRn)
    have hB2:Below w.heap.size w w2:=hB1.trans (grown_below_b' hgr (by omega) (by omega));have hQ2:=(hgr.block (w.heap.size+1) (by omega) (by simp)).trans hQ1.out;have HB2:=Lib.hid hB2;have hs2:=hgr.size;obtain⟨c0,c1,c2,c3,c4,c5,c6,c7,c8,c9,c10,c11,c12⟩:=cells13 hw2.blk;obtain⟨q0,q1,q2,q3⟩:=cells4 hQ2;(have rf:=fun j=>Lib.frozen_of_heap hQ2 j);clear hRn hw2 hgr hB2 hB1 hQ1 HGo hb0 hP hQ c0 c1 c2 c3 c4 c5 c6 c7 c8;go_wp2_with fail;refine post_sets4 hQ2 ?_;intro W4 hb4 hg4 hs4 hR4;refine bodyPost_ret (HRET.out _ _ _ hR4 rfl _ rfl) rfl ?_;exact⟨by rw[HRn.out];rfl,HB2.out.trans (hb4.mono (by omega))⟩
theorem walk_any (v:Value)(ms:List NodeM)(most room who fr:Int)(path:Str)(follow:Bool)(w:World)(hv:RdM w.heap.size v ms w)(hd:DskW ms)(hpl:path.length≤10000)(hg:w.cell? ⟨0,0,none⟩=some errTypeV) :
 Calls Tryz.prog 133 #[.agg #[v, .int .i64 most, .int .i64 room], .int .i64 who, .int .i64 fr, .string (bs path), .bool follow] w fun e w'=>WalkIs (walkL (pl ms) who fr path follow) e w w' :=
 walk_R _ v ms most room who fr path follow w hv hd hpl hg rfl
end Go.Proofs.YtmiekcdkamgknaaGreatDoor
namespace Go.Proofs.YtmiekcdkamgknaaGreatDoor
open Go.RowKit Go.Shelf
attribute [local go_sem ↓] Go.wp_at_zero Go.wp_at_succ
theorem code_set1 {P:Program}{a:Act}{w:World}{c:Code}{K:Exit→Act→World→Prop}{b i:Nat}{u:Value}{cs:Array Value}{t:TypeId}(hb:w.heap[b]? = some (.cells cs t (0,0)))
 (h : ∀W',Below b w W'→(∀g,g≠b→W'.heap[g]? = w.heap[g]?)→W'.heap.size=w.heap.size→W'.heap[b]? = some (.cells (cs.setIfInBounds i u) t (0,0))→c.wp P K a W'):c.wp P K a (w.setCell ⟨b,i,none⟩ u) :=
  h _ ((Below.refl b w).setCell (p:=⟨b,i,none⟩) (Nat.le_refl _) u) (fun g hg=>Below.heap_setCell _ _ _ g hg) (by simp[World.setCell]) (heap_set hb)
abbrev diskV (ao:Option Addr)(n cap:Nat)(most room:Int):Value:= .agg #[.slice ao n cap, .int .i64 most, .int .i64 room]
end Go.Proofs.YtmiekcdkamgknaaGreatDoor
namespace Go.Proofs.YtmiekcdkamgknaaGreatDoor
open Go.RowKit Go.Shelf
attribute [local go_sem ↓] Go.wp_at_zero Go.wp_at_succ
abbrev And1 (X:Nat→Prop)(b:Nat):Nat→Prop:=fun g=>X g∨g=b
theorem Old.and {X:Nat→Prop}{b:Nat}{W:World}(h:Old X W)(hb:b<W.heap.size):Old (And1 X b) W:=fun g hg=>hg.elim (h g) fun(e:g=b)=>by rw[e];exact hb
theorem GivesX.and {X:Nat→Prop}{b:Nat}{l:List NodeL}{v:Value}{W W':World}(h:GivesX X l v W)(hb:Below W.heap.size W W')(hn:W.heap.size≤b):GivesX (And1 X b) l v W':=h.add hb fun g hg=>hg.imp id fun(e:g=b)=>by rw[e];exact hn
theorem NodeX.and {X:Nat→Prop}{b:Nat}{n:NodeL}{v:Value}{W W':World}(h:NodeX X n v W)(hb:Below W.heap.size W W')(hn:W.heap.size≤b):NodeX (And1 X b) n v W':=h.add hb fun g hg=>hg.imp id fun(e:g=b)=>by rw[e];exact hn
theorem setL_len (l:List NodeL)(i:Int)(n:NodeL):(setL l i n).length=l.length:=by
 unfold setL;split
 · exact List.length_set
 · rfl
end Go.Proofs.YtmiekcdkamgknaaGreatDoor
namespace Go.Proofs.YtmiekcdkamgknaaGreatDoor
open Go.RowKit Go.Shelf
abbrev Bl:=Nat × Array Value × TypeId
def Xo (X:Nat→Prop)(L:List Nat):Nat→Prop:=fun g=>X g∨g∈L
structure St (X:Nat→Prop) (w:World) (B:List Bl) (G:List (List NodeL × Value)) (N:List (NodeL × Value)) (W:World):Prop where
 bel:Below w.heap.size w W
 old:Old X w
 blk : ∀x∈B,W.heap[x.1]? = some (.cells x.2.1 x.2.2 (0,0))∧w.heap.size≤x.1
 nd:(B.map (·.1)).Nodup
 gv : ∀x∈G,GivesX (Xo X (B.map (·.1))) x.1 x.2 W
 nv : ∀x∈N,NodeX (Xo X (B.map (·.1))) x.1 x.2 W
theorem fresh4 {P:World→Prop}{w:World}{A0 A1 A2 A3:Obj}(h : ∀W,Below w.heap.size w W→W.heap[w.heap.size]? = some A0→W.heap[w.heap.size+1]? = some A1→W.heap[w.heap.size+2]? = some A2→W.heap[w.heap.size+3]? = some A3→W.heap.size=w.heap.size+4→P W):P ((((w.alloc A0).alloc A1).alloc A2).alloc A3) :=
 fresh3 (P:=fun W=>P (W.alloc A3)) fun W1 b1 h0 h1 h2 s1=>fresh1 fun W2 b2 hn s2=>h W2 (ret_tr b1 b2) ((b2.block _ (by omega)).trans h0) ((b2.block _ (by omega)).trans h1) ((b2.block _ (by omega)).trans h2) (by rw[s1]at hn;exact hn) (by omega)
theorem code_fresh4 {P:Program}{a:Act}{w:World}{A0 A1 A2 A3:Obj}{c:Code}{K:Exit→Act→World→Prop}(h : ∀W,Below w.heap.size w W→W.heap[w.heap.size]? = some A0→W.heap[w.heap.size+1]? = some A1→W.heap[w.heap.size+2]? = some A2→W.heap[w.heap.size+3]? = some A3→W.heap.size=w.heap.size+4→c.wp P K a W):c.wp P K a ((((w.alloc A0).alloc A1).alloc A2).alloc A3):=fresh4 (P:=fun W=>c.wp P K a W) h
section
variable {X:Nat→Prop} {w W W':World} {B:List Bl} {G:List (List NodeL × Value)} {N:List (NodeL × Value)}
theorem St.lt (h:St X w B G N W){x:Bl}(hx:x∈B):x.1<W.heap.size:=(Array.getElem?_eq_some_iff.1 (h.blk x hx).1).1
theorem St.start (hX:Old X w)(hG : ∀x∈G,GivesX X x.1 x.2 w)(hN : ∀x∈N,NodeX X x.1 x.2 w):St X w [] G N w :=
 ⟨Below.refl _ _,hX,(fun _ h=>by cases h),List.nodup_nil,fun x hx=>(hG x hx).sub (Y:=Xo X []) fun g hg=>hg.elim id (fun h=>by cases h),fun x hx=>(hN x hx).sub (Y:=Xo X []) fun g hg=>hg.elim id (fun h=>by cases h)⟩
theorem St.call (h:St X w B G N W)(hb:Below W.heap.size W W'):St X w B G N W' :=
 ⟨ret_tr h.bel hb,h.old,fun x hx=>⟨(hb.block _ (h.lt hx)).trans (h.blk x hx).1,(h.blk x hx).2⟩,h.nd,fun x hx=>(h.gv x hx).keep hb,fun x hx=>(h.nv x hx).keep hb⟩
theorem St.oldX (h:St X w B G N W):Old (Xo X (B.map (·.1))) W:=fun g hg=>by
 rcases hg with hg | hg
 · exact Nat.lt_of_lt_of_le (h.old g hg) h.bel.size
 · obtain⟨x,hx,rfl⟩:=List.mem_map.1 hg
   exact h.lt hx
theorem St.news (h:St X w B G N W)(hb:Below W.heap.size W W')(C:List Bl)(hC : ∀x∈C,W'.heap[x.1]? = some (.cells x.2.1 x.2.2 (0,0))∧W.heap.size≤x.1)(hn:(C.map (·.1)).Nodup):St X w (B++C) G N W':=by
 have hY : ∀g,Xo X ((B++C).map (·.1)) g→Xo X (B.map (·.1)) g∨W.heap.size≤g:=fun g hg=>by
  rcases hg with hg | hg
  · exact .inl (.inl hg)
  · rw[List.map_append,List.mem_append]at hg
    rcases hg with hg | hg
    · exact .inl (.inr hg)
    · obtain⟨x,hx,rfl⟩:=List.mem_map.1 hg
      exact .inr (hC x hx).2
 refine⟨ret_tr h.bel hb,h.old,fun x hx=> ?_,?_,fun x hx=>(h.gv x hx).add hb hY,fun x hx=>(h.nv x hx).add hb hY⟩
 · rcases List.mem_append.1 hx with hx | hx
   · exact⟨(hb.block _ (h.lt hx)).trans (h.blk x hx).1,(h.blk x hx).2⟩
   · exact⟨(hC x hx).1,Nat.le_trans h.bel.size (hC x hx).2⟩
 · rw[List.map_append,List.nodup_append]
   refine⟨h.nd,hn,fun a ha b hb2 e=> ?_⟩;obtain⟨x,hx,rfl⟩:=List.mem_map.1 ha;obtain⟨y,hy,rfl⟩:=List.mem_map.1 hb2;have:=h.lt hx;have:=(hC y hy).2;omega
theorem St.new1 (h:St X w B G N W)(hb:Below W.heap.size W W'){cs0:Array Value}{t0:TypeId}(h0:W'.heap[W.heap.size]? = some (.cells cs0 t0 (0,0))) :
 St X w (B++ [(W.heap.size,cs0,t0)]) G N W' :=
 h.news hb _ (fun x hx=>by
  simp only[List.mem_cons,List.not_mem_nil,or_false]at hx;rcases hx with rfl
  · exact⟨h0,Nat.le_refl _⟩) (by simp)
theorem St.new2 (h:St X w B G N W)(hb:Below W.heap.size W W'){cs0 cs1:Array Value}{t0 t1:TypeId}(h0:W'.heap[W.heap.size]? = some (.cells cs0 t0 (0,0)))(h1:W'.heap[W.heap.size+1]? = some (.cells cs1 t1 (0,0))) :
 St X w (B++ [(W.heap.size,cs0,t0),(W.heap.size+1,cs1,t1)]) G N W' :=
 h.news hb _ (fun x hx=>by
  simp only[List.mem_cons,List.not_mem_nil,or_false]at hx;rcases hx with rfl | rfl
  · exact⟨h0,Nat.le_refl _⟩
  · exact⟨h1,Nat.le_add_right _ _⟩) (by simp)
theorem St.new4 (h:St X w B G N W)(hb:Below W.heap.size W W'){cs0 cs1 cs2 cs3:Array Value}{t0 t1 t2 t3:TypeId}(h0:W'.heap[W.heap.size]? = some (.cells cs0 t0 (0,0)))(h1:W'.heap[W.heap.size+1]? = some (.cells cs1 t1 (0,0)))(h2:W'.heap[W.heap.size+2]? = some (.cells cs2 t2 (0,0)))(h3:W'.heap[W.heap.size+3]? = some (.cells cs3 t3 (0,0))) :
 St X w (B++ [(W.heap.size,cs0,t0),(W.heap.size+1,cs1,t1),(W.heap.size+2,cs2,t2),(W.heap.size+3,cs3,t3)]) G N W' :=
 h.news hb _ (fun x hx=>by
  simp only[List.mem_cons,List.not_mem_nil,or_false]at hx;rcases hx with rfl | rfl | rfl | rfl
  · exact⟨h0,Nat.le_refl _⟩
  · exact⟨h1,Nat.le_add_right _ _⟩
  · exact⟨h2,Nat.le_add_right _ _⟩
  · exact⟨h3,Nat.le_add_right _ _⟩) (by simp)
theorem St.at (h:St X w B G N W)(k:Nat){b:Nat}{cs:Array Value}{t:TypeId}(hk:B[k]? = some (b,cs,t)):W.heap[b]? = some (.cells cs t (0,0)):=(h.blk _ (List.mem_of_getElem? hk)).1
theorem St.own (h:St X w B G N W)(k:Nat){b:Nat}{cs:Array Value}{t:TypeId}(hk:B[k]? = some (b,cs,t)):w.heap.size≤b∧b<W.heap.size:=⟨(h.blk _ (List.mem_of_getElem? hk)).2,h.lt (List.mem_of_getElem? hk)⟩
theorem map_set_same {L:List Bl}{k b:Nat}{cs cs':Array Value}{t:TypeId}(hk:L[k]? = some (b,cs,t)):(L.set k (b,cs',t)).map (·.1)=L.map (·.1):=by
 apply List.ext_getElem?;intro j;rw[List.getElem?_map,List.getElem?_map,List.getElem?_set];by_cases e:k=j
 · subst e
   rw[if_pos rfl,hk];have:=(List.getElem?_eq_some_iff.1 hk).1;rw[if_pos this];rfl
 · rw[if_neg e]
theorem St.set (h:St X w B G N W)(k:Nat){b:Nat}{cs cs':Array Value}{t:TypeId}(hk:B[k]? = some (b,cs,t))(hb:Below b W W')(hg : ∀g,g≠b→W'.heap[g]? = W.heap[g]?)(hs:W'.heap.size=W.heap.size)(hn:W'.heap[b]? = some (.cells cs' t (0,0))) :
 St X w (B.set k (b,cs',t)) G N W':=by
 have hm:=map_set_same (cs':=cs') hk;have hkl:=(List.getElem?_eq_some_iff.1 hk).1;have hXb:Xo X (B.map (·.1)) b:= .inr (List.mem_map.2 ⟨_,List.mem_of_getElem? hk,rfl⟩);have hwb:=(h.own k hk).1;refine⟨h.bel.trans (hb.mono hwb),h.old,fun x hx=> ?_,by rw[hm];exact h.nd,fun x hx=>by rw[hm];exact(h.gv x hx).other hXb hs hg,fun x hx=>by rw[hm];exact(h.nv x hx).other hXb hs hg⟩;obtain⟨j,hj⟩:=List.mem_iff_getElem?.1 hx;rw[List.getElem?_set]at hj;by_cases e:k=j
 · subst e
   rw[if_pos rfl,if_pos hkl]at hj;obtain rfl:=Option.some.inj hj;exact⟨hn,hwb⟩
 · rw[if_neg e]at hj
   have hne:x.1≠b:=fun e2=>by
    (have h1:(B.map (·.1))[k]? = some b:=by rw[List.getElem?_map,hk];rfl);(have h2:(B.map (·.1))[j]? = some b:=by rw[List.getElem?_map,hj,←e2];rfl);(have hkl':k<(B.map (·.1)).length:=by simpa using hkl);exact e ((List.getElem?_inj hkl' h.nd).1 (h1.trans h2.symm))
   exact⟨(hg _ hne).trans (h.blk x (List.mem_of_getElem? hj)).1,(h.blk x (List.mem_of_getElem? hj)).2⟩
theorem St.addG (h:St X w B G N W){l:List NodeL}{v:Value}(hg:GivesX (Xo X (B.map (·.1))) l v W):St X w B (G++ [(l,v)]) N W :=
 ⟨h.bel,h.old,h.blk,h.nd,fun x hx=>by
  rcases List.mem_append.1 hx with hx | hx
  · exact h.gv x hx
  · rw[List.mem_singleton]at hx;subst hx;exact hg,h.nv⟩
theorem St.addN (h:St X w B G N W){n:NodeL}{v:Value}(hn:NodeX (Xo X (B.map (·.1))) n v W):St X w B G (N++ [(n,v)]) W :=
 ⟨h.bel,h.old,h.blk,h.nd,h.gv,fun x hx=>by
  rcases List.mem_append.1 hx with hx | hx
  · exact h.nv x hx
  · rw[List.mem_singleton]at hx;subst hx;exact hn⟩
theorem St.less (h:St X w B G N W){G':List (List NodeL × Value)}{N':List (NodeL × Value)}(hG : ∀x∈G',x∈G)(hN : ∀x∈N',x∈N):St X w B G' N' W :=
 ⟨h.bel,h.old,h.blk,h.nd,fun x hx=>h.gv x (hG x hx),fun x hx=>h.nv x (hN x hx)⟩
theorem St.g (h:St X w B G N W)(k:Nat){l:List NodeL}{v:Value}(hk:G[k]? = some (l,v)):GivesX (Xo X (B.map (·.1))) l v W:=h.gv _ (List.mem_of_getElem? hk)
theorem St.n (h:St X w B G N W)(k:Nat){n:NodeL}{v:Value}(hk:N[k]? = some (n,v)):NodeX (Xo X (B.map (·.1))) n v W:=h.nv _ (List.mem_of_getElem? hk)
theorem St.gX (h:St X w B G N W)(k:Nat){l:List NodeL}{v:Value}(hk:G[k]? = some (l,v)):GivesX X l v W:=(h.g k hk).sub fun _ hg=> .inl hg
end
end Go.Proofs.YtmiekcdkamgknaaGreatDoor
