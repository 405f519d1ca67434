import Derived.Test.YtbjkkijickbppaaGreatDoorR38
import Derived.Test.YtbjkkijickbppaaGreatDoorR40
import Derived.Deep.RegionHeld3
import Derived.Deep.DeepCutAuto
import Derived.Test.YtbjkkijickbppaaGreatDoorR31
import Derived.Test.YtbjkkijickbppaaGreatDoorR19
import Derived.Test.YtbjkkijickbppaaGreatDoorR17
import Derived.Test.YtbjkkijickbppaaGreatDoorR15
import Derived.Test.YtbjkkijickbppaaGreatDoorR14
import Derived.Test.YtbjkkijickbppaaGreatDoorR24
import Derived.Deep.OwnRows
import Derived.Laws.CopyRow
import Derived.Laws.BytesString
import Derived.Lib.ConvBytes
import Derived.Lib.SlBuf
namespace Go.Proofs.YtbjkkijickbppaaGreatDoor
open Go.RowKit Go.Shelf
attribute [local go_sem ↓] Go.wp_at_zero Go.wp_at_succ
def posW (x:DescL)(n:Int):DescL:= { x with pos:=RowKit.wrap64 (x.pos+n)}
set_option maxRecDepth 100000 in
set_option maxHeartbeats 4000000 in
theorem padvance_c (X:Nat→Prop)(t:TabL)(j n:Int)(x:DescL)(ad af:Option Addr)(cd cf:Nat)(v0 v1 v2 v5 v6 v7 v8 v9 v10 v11 v12 v13 v14 v15:Value)(bw:Nat)(w:World)(hX:Old X w)(hq:X bw)(hW:w.heap[bw]? = some (.cells #[v0,v1,v2, .slice ad t.ds.length cd, .slice af t.fs.length cf,v5,v6,v7,v8,v9,v10,v11,v12,v13,v14,v15] 59 (0,0)))(hT:TabX t (.slice ad t.ds.length cd) (.slice af t.fs.length cf) X w)(hz:SizeT t)(hr:RightT t) :
 Calls Tryz.prog 97 #[.pointer (some ⟨bw,0,none⟩), .int .i64 j,dvalD x, .int .i64 n] w fun e w'=>∃ad' cd' af' cf',e = .returned (.tuple #[])∧TabX (setT t j (posW x n)) (.slice ad' (setT t j (posW x n)).ds.length cd') (.slice af' (setT t j (posW x n)).fs.length cf') X w'∧BelB bw w w'∧w'.heap[bw]? = some (.cells #[v0,v1,v2, .slice ad' (setT t j (posW x n)).ds.length cd', .slice af' (setT t j (posW x n)).fs.length cf',v5,v6,v7,v8,v9,v10,v11,v12,v13,v14,v15] 59 (0,0)):=by
 have S0:=Lib.hid (Sw.start (G:= [TabX t (.slice ad t.ds.length cd) (.slice af t.fs.length cf)]) hX hq hW (th1 (TabX.firm _ _ _) hT));have HZ:=Lib.hid hz;have HR:=Lib.hid hr;clear hX hq hW hT hz hr;go_enter Tryz.func97,Tryz.ntmps97;go_upto_region 1 with(fail);refine code_fresh1 ?_;intro W1 hb hA0 hs;have S1:=Lib.hid (S0.out.new1 hb hA0);clear hb hA0 hs;obtain⟨-,x1, -, -, -, -⟩:=cells6 (S1.out.at 1 rfl);(have fx:=fun j=>Lib.frozen_of_heap (S1.out.at 1 rfl) j);go_upto_region 2 with(fail);clear x1 fx;refine code_set1 (S1.out.at 1 rfl) ?_;intro W2 hb hg hs hn;have S2:=Lib.hid (S1.out.set 1 rfl hb hg hs hn);clear hb hg hs hn;refine wp_region_D (T:=(fun W=>True)) (F:=(fun W=>W.heap[bw]? = some (.cells #[v0,v1,v2, .slice ad t.ds.length cd, .slice af t.fs.length cf,v5,v6,v7,v8,v9,v10,v11,v12,v13,v14,v15] 59 (0,0))∧W.heap[w.heap.size]? = some (.cells #[.int .i64 x.ino, .int .i64 (RowKit.wrap64 (x.pos+n)), .bool x.rd, .bool x.wr, .int .i64 x.refs, .int .i64 x.lock] 82 (0,0))∧W.rangeAt bw 3 [.slice ad t.ds.length cd, .slice af t.fs.length cf]∧True)) (s:=8) (by kernel_rfl) ⟨trivial,fun _=>⟨(S2.out.at 0 rfl),(S2.out.at 1 rfl),w_tab (S2.out.at 0 rfl),trivial⟩⟩ (fun _=> ?_);have S3:=Lib.hid (S2.out.call (Below.refl W2.heap.size W2).drew);generalize W2.drew=W3 at *;have hTF:(fun W=>True) W3∧(fun W=>W.heap[bw]? = some (.cells #[v0,v1,v2, .slice ad t.ds.length cd, .slice af t.fs.length cf,v5,v6,v7,v8,v9,v10,v11,v12,v13,v14,v15] 59 (0,0))∧W.heap[w.heap.size]? = some (.cells #[.int .i64 x.ino, .int .i64 (RowKit.wrap64 (x.pos+n)), .bool x.rd, .bool x.wr, .int .i64 x.refs, .int .i64 x.lock] 82 (0,0))∧W.rangeAt bw 3 [.slice ad t.ds.length cd, .slice af t.fs.length cf]∧True) W3:=⟨trivial,⟨(S3.out.at 0 rfl),(S3.out.at 1 rfl),w_tab (S3.out.at 0 rfl),trivial⟩⟩
 refine anyD.take (i:=0) (v:= ?v20) rfl (by kernel_rfl) (by kernel_rfl) (by kernel_rfl) (fun _ _ _ h=>h) (by rfl) (Or.inl ⟨by rfl,?hy20⟩) ⟨hTF.1,fun _=>hTF.2⟩ ?rest20
 case hy20=>(intro w hSw;(try dsimp only at hSw);(try go_split_ands);go_simp;first | done | with_reducible rfl)
 (try simp only[List.getElem_toArray]);(try simp only[List.getElem_cons_succ]);(try simp only[List.getElem_cons_zero]);(try simp only[Act.put]);(try simp only[List.setIfInBounds_toArray]);(try simp only[List.set_cons_succ]);(try simp only[List.set_cons_zero]);refine anyD.take (i:=1) (v:= ?v21) rfl (by kernel_rfl) (by kernel_rfl) (by kernel_rfl) (fun _ _ _ h=>h) (by rfl) (Or.inl ⟨by rfl,?hy21⟩) ⟨hTF.1,fun _=>hTF.2⟩ ?rest21
 case hy21=>(intro w hSw;(try dsimp only at hSw);(try go_split_ands);go_simp;first | done | with_reducible rfl)
 (try simp only[List.getElem_toArray]);(try simp only[List.getElem_cons_succ]);(try simp only[List.getElem_cons_zero]);(try simp only[Act.put]);(try simp only[List.setIfInBounds_toArray]);(try simp only[List.set_cons_succ]);(try simp only[List.set_cons_zero]);refine anyD.take (i:=2) (v:= ?v22) rfl (by kernel_rfl) (by kernel_rfl) (by kernel_rfl) (fun _ _ _ h=>h) (by rfl) (Or.inl ⟨by rfl,?hy22⟩) ⟨hTF.1,fun _=>hTF.2⟩ ?rest22
 case hy22=>(intro w hSw;(try dsimp only at hSw);(try go_split_ands);go_simp;first | done | with_reducible rfl)
 (try simp only[List.getElem_toArray]);(try simp only[List.getElem_cons_succ]);(try simp only[List.getElem_cons_zero]);(try simp only[Act.put]);(try simp only[List.setIfInBounds_toArray]);(try simp only[List.set_cons_succ]);(try simp only[List.set_cons_zero]);refine anyD.take (i:=3) (v:= ?v23) rfl (by kernel_rfl) (by kernel_rfl) (by kernel_rfl) (fun _ _ _ h=>h) (by rfl) (Or.inl ⟨by rfl,?hy23⟩) ⟨hTF.1,fun _=>hTF.2⟩ ?rest23
 case hy23=>(intro w hSw;(try dsimp only at hSw);(try go_split_ands);go_simp;first | done | with_reducible rfl)
 (try simp only[List.getElem_toArray]);(try simp only[List.getElem_cons_succ]);(try simp only[List.getElem_cons_zero]);(try simp only[Act.put]);(try simp only[List.setIfInBounds_toArray]);(try simp only[List.set_cons_succ]);(try simp only[List.set_cons_zero]);refine anyD.take (i:=4) (v:= ?v24) rfl (by kernel_rfl) (by kernel_rfl) (by kernel_rfl) (fun _ _ _ h=>h) (by rfl) (Or.inl ⟨by rfl,?hy24⟩) ⟨hTF.1,fun _=>hTF.2⟩ ?rest24
 case hy24=>(intro w hSw;(try dsimp only at hSw);(try go_split_ands);go_simp;first | done | with_reducible rfl)
 (try simp only[List.getElem_toArray]);(try simp only[List.getElem_cons_succ]);(try simp only[List.getElem_cons_zero]);(try simp only[Act.put]);(try simp only[List.setIfInBounds_toArray]);(try simp only[List.set_cons_succ]);(try simp only[List.set_cons_zero]);refine anyD.takeF (i:=5) rfl (by kernel_rfl) (by kernel_rfl) (by kernel_rfl) (fun _ _ _ h=>h) (by rfl) (by kernel_rfl) (by rfl) (yieldsIf_load_mid (by rfl) 28 _ rfl _ 3 rfl _ _ (fun _ h=>h.2.2.2.1) Tryz.underlying28 rfl (by kernel_rfl)) ⟨hTF.1,fun _=>hTF.2⟩ ?_;(try simp only[List.getElem_toArray]);(try simp only[List.getElem_cons_succ]);(try simp only[List.getElem_cons_zero]);(try simp only[Act.put]);(try simp only[List.setIfInBounds_toArray]);(try simp only[List.set_cons_succ]);(try simp only[List.set_cons_zero]);refine anyD.take (i:=6) (v:= ?v25) rfl (by kernel_rfl) (by kernel_rfl) (by kernel_rfl) (fun _ _ _ h=>h) (by rfl) (Or.inl ⟨by rfl,?hy25⟩) ⟨hTF.1,fun _=>hTF.2⟩ ?rest25
 case hy25=>(intro w hSw;(try dsimp only at hSw);(try go_split_ands);go_simp;first | done | with_reducible rfl)
 (try simp only[List.getElem_toArray]);(try simp only[List.getElem_cons_succ]);(try simp only[List.getElem_cons_zero]);(try simp only[Act.put]);(try simp only[List.setIfInBounds_toArray]);(try simp only[List.set_cons_succ]);(try simp only[List.set_cons_zero]);refine anyD.takeF (i:=7) rfl (by kernel_rfl) (by kernel_rfl) (by kernel_rfl) (fun _ _ _ h=>h) (by rfl) (by kernel_rfl) (by rfl) (yieldsIf_load_row (by rfl) 82 _ rfl _ rfl 82 _ (0,0) _ (fun _ h=>h.2.2.1) Tryz.underlying82 rfl (by kernel_rfl)) ⟨hTF.1,fun _=>hTF.2⟩ ?_;(try simp only[List.getElem_toArray]);(try simp only[List.getElem_cons_succ]);(try simp only[List.getElem_cons_zero]);(try simp only[Act.put]);(try simp only[List.setIfInBounds_toArray]);(try simp only[List.set_cons_succ]);(try simp only[List.set_cons_zero]);refine anyD.one (i:=8) (by kernel_rfl) rfl (by rfl) (fun K hK=> ?_);go_simp;refine(pset_c _ t j (posW x n) _ _ _ _ W3 S3.out.oldX (S3.out.g 0 rfl) HZ.out HR.out).mono ?_;rintro e W4 ⟨vd,vf,rfl,hT,hb⟩;have S4:=Lib.hid ((S3.out.call hb).more (TabX.firm _ _ _) hT);obtain⟨ad2,cd2,af2,cf2,rfl,rfl⟩:=hT.form;clear hb hTF hT;go_wp2_with fail;refine hK.out _ _ trivial (fun hHeld=> ?_);clear hK K;(try simp only[List.getElem_toArray]);(try simp only[List.getElem_cons_succ]);(try simp only[List.getElem_cons_zero]);(try simp only[Act.put]);(try simp only[List.setIfInBounds_toArray]);(try simp only[List.set_cons_succ]);(try simp only[List.set_cons_zero])
 refine wpAnyH_take (i:=9) (v:= ?v26) rfl (by kernel_rfl) (by kernel_rfl) (by kernel_rfl) (fun _ _ _ h=>h) (Or.inl ⟨by rfl,?hy26⟩) hHeld ?rest26
 case hy26=>(intro w hSw;(try dsimp only at hSw);(try go_split_ands);go_simp;first | done | with_reducible rfl)
 (try simp only[List.getElem_toArray]);(try simp only[List.getElem_cons_succ]);(try simp only[List.getElem_cons_zero]);(try simp only[Act.put]);(try simp only[List.setIfInBounds_toArray]);(try simp only[List.set_cons_succ]);(try simp only[List.set_cons_zero]);refine wpAnyH_take (i:=10) (v:= ?v27) rfl (by kernel_rfl) (by kernel_rfl) (by kernel_rfl) (fun _ _ _ h=>h) (Or.inl ⟨by rfl,?hy27⟩) hHeld ?rest27
 case hy27=>(intro w hSw;(try dsimp only at hSw);(try go_split_ands);go_simp;first | done | with_reducible rfl)
 (try simp only[List.getElem_toArray]);(try simp only[List.getElem_cons_succ]);(try simp only[List.getElem_cons_zero]);(try simp only[Act.put]);(try simp only[List.setIfInBounds_toArray]);(try simp only[List.set_cons_succ]);(try simp only[List.set_cons_zero]);refine wpAnyH_take (i:=11) (v:= ?v28) rfl (by kernel_rfl) (by kernel_rfl) (by kernel_rfl) (fun _ _ _ h=>h) (Or.inl ⟨by rfl,?hy28⟩) hHeld ?rest28
 case hy28=>(intro w hSw;(try dsimp only at hSw);(try go_split_ands);go_simp;first | done | with_reducible rfl)
 (try simp only[List.getElem_toArray]);(try simp only[List.getElem_cons_succ]);(try simp only[List.getElem_cons_zero]);(try simp only[Act.put]);(try simp only[List.setIfInBounds_toArray]);(try simp only[List.set_cons_succ]);(try simp only[List.set_cons_zero]);refine wpAnyH_ready (rs:= [12]) (by kernel_rfl) (by simp) ?_;refine AllReadyH.cons rfl (fun K hK=> ?_) AllReadyH.nil;rw[if_pos (by rfl)];refine wp_store_w2 28 _ _ rfl bw rfl rfl (S4.out.at 0 rfl) (by kernel_rfl) rfl rfl ?_;intro W5 hb hg hs hn;have S5:=Lib.hid (S4.out.set 0 rfl hb hg hs hn);clear hb hg hs hn hHeld;refine hK.out _ _ trivial (fun hHeld=> ?_);clear hK K;(try simp only[List.getElem_toArray]);(try simp only[List.getElem_cons_succ]);(try simp only[List.getElem_cons_zero]);(try simp only[Act.put]);(try simp only[List.setIfInBounds_toArray]);(try simp only[List.set_cons_succ]);(try simp only[List.set_cons_zero]);refine wpAnyH_done (by kernel_rfl) ?_ _;go_wp2_with fail;go_end0;exact⟨ad2,cd2,af2,cf2,rfl,S5.out.gX 1 rfl,S5.out.bel,S5.out.at 0 rfl⟩
end Go.Proofs.YtbjkkijickbppaaGreatDoor
namespace Go.Proofs.YtbjkkijickbppaaGreatDoor
open Go.RowKit Go.Shelf
attribute [local go_sem ↓] Go.wp_at_zero Go.wp_at_succ
theorem Ord.add {l:List NodeL}(h:Dsk l){n:NodeL}(hn:SmallN n)(hu:Up n.names)(most room:Int):Ord (addL l most room n):=by
 have hs:Siz 111 130 (addL l most room n):=Siz.add (a:=110) (c:=130) ⟨h.sm.1,h.sm.2⟩ hn most room;refine⟨Nat.le_trans hs.1 (by decide),fun m hm=>Nat.le_trans (hs.2 m hm).2 (by decide),fun m hm=> ?_⟩;have ho:=h.ord.up;unfold addL at hm;split at hm
 · exact ho m hm
 · split at hm
   · rcases List.mem_append.1 hm with hm | hm
     · exact ho m hm
     · rw[List.mem_singleton]at hm;subst hm;exact hu
   · rcases List.mem_or_eq_of_mem_set hm with hm | rfl
     · exact ho m hm
     · exact hu
end Go.Proofs.YtbjkkijickbppaaGreatDoor
namespace Go.Proofs.YtbjkkijickbppaaGreatDoor
open Go.RowKit Go.Shelf
attribute [local go_sem ↓] Go.wp_at_zero Go.wp_at_succ
structure WkOk (k:KernL) (a:Nat) (c:CallL):Prop where
 ok:KrnOk k
 lt:a<k.ps.length
 live:liveB k.ps (a:Int)=true
 p1:c.path.length≤10000
 p2:c.path2.length≤10000
 dt:c.data.length≤1000
 f0 : -9223372036854775808≤c.fd
 f1:c.fd≤9223372036854775807
 g0 : -9223372036854775808≤c.fd2
 g1:c.fd2≤9223372036854775807
theorem KrnOk.nms {k:KernL}(h:KrnOk k) : ∀n∈k.l,n.names.length≤10000:=fun n hm=>Nat.le_trans (h.dsk.sm.2 n hm).2 (by decide)
end Go.Proofs.YtbjkkijickbppaaGreatDoor
namespace Go.Proofs.YtbjkkijickbppaaGreatDoor
open Go.RowKit Go.Shelf
attribute [local go_sem ↓] Go.wp_at_zero Go.wp_at_succ
theorem file_at {l:List NodeL}{i:Int}{n:NodeL}{b:Bool}(hn:n=getL l i)(hb:b=gotB l i):fileE l i=if b=false then 2 else if n.kind=2 then 5 else if n.kind≠1 then 1 else 0:=by
 subst hn;subst hb;rfl
end Go.Proofs.YtbjkkijickbppaaGreatDoor
namespace Go.Proofs.YtbjkkijickbppaaGreatDoor
open Go.RowKit Go.Shelf
attribute [local go_sem ↓] Go.wp_at_zero Go.wp_at_succ
def fileNC (l:List NodeL)(i:Int):NodeL:=if fileE l i=0 then getL l i else zeroN
theorem fileN_ok {l:List NodeL}{i:Int}(h:fileE l i=0):fileNC l i=getL l i:=if_pos h
theorem fileN_no {l:List NodeL}{i:Int}(h:fileE l i≠0):fileNC l i=zeroN:=if_neg h
theorem part_ext (d:Nm)(j m:Nat):((bs d).extract (min (j:Int) (d.length:Int)).toNat d.length).extract 0 (min (m:Int) ((d.length-(min (j:Int) (d.length:Int)).toNat:Nat):Int)).toNat=bs (partD d j m):=by
 (have e1:(min (j:Int) (d.length:Int)).toNat=min j d.length:=by omega);rw[e1,bs_drop d _ _ rfl,bs_take];congr 1;(have e2:(min (m:Int) ((d.length-min j d.length:Nat):Int)).toNat=min m (d.length-min j d.length):=by omega);rw[e2];congr 1;apply List.ext_getElem?;intro k;rw[part_get,List.getElem?_take,List.getElem?_drop];by_cases h:k<min m (d.length-min j d.length)
 · rw[if_pos h,if_pos (by omega)]
   congr 1;omega
 · rw[if_neg h]
   split
   · exact(List.getElem?_eq_none (by omega)).symm
   · rfl
def PFileIs (X:Nat→Prop)(l:List NodeL)(i:Int)(e:Ending)(w w':World):Prop :=
 ∃ao cap,e = .returned (.tuple #[nval (fileNC l i) (.slice ao (fileNC l i).names.length cap), .int .i64 (fileE l i)])∧NodeX X (fileNC l i) (.slice ao (fileNC l i).names.length cap) w'∧Below w.heap.size w w'
set_option maxRecDepth 100000 in
set_option maxHeartbeats 4000000 in
theorem pfile_c (X:Nat→Prop)(l:List NodeL)(most room i:Int)(ao:Option Addr)(cap:Nat)(w:World)(hX:Old X w)(hg:GivesX X l (.slice ao l.length cap) w)(hl:l.length≤10000)(hnl : ∀n∈l,n.names.length≤10000) :
 Calls Tryz.prog 141 #[diskV ao l.length cap most room, .int .i64 i] w fun e w'=>PFileIs X l i e w w':=by
 have S0:=Lib.hid (St.start (G:= [(l, .slice ao l.length cap)]) (N:= []) hX (one_g hg) no_n)
 have HRET:Hid (∀(W:World) (cs:Array Value) (fr),W.heap[w.heap.size+1]? = some (.cells cs 67 fr)→cs.size=8→∀tmps:Array Value,tmps.getD 4 undef = .pointer (some ⟨w.heap.size+1,0,none⟩)→(results Tryz.f141 tmps).run Tryz.prog W = .ok (.tuple #[.agg cs,tmps.getD 5 undef]) W):=Lib.hid fun W cs fr h hs tmps ht =>
 results_ct (p:=4) (u:=5) (ty:=67) rfl tmps W (w.heap.size+1) _ cs fr _ ht h Tryz.underlying67 rfl (by rw[hs];kernel_rfl)
 clear hX hg;unfold PFileIs;go_enter Tryz.func141,Tryz.ntmps141;go_upto_region 1 with(fail);refine code_fresh2 ?_;intro W1 hb hA0 hA1 hs;have S1:=Lib.hid (S0.out.new2 hb hA0 hA1);clear hb hA0 hA1 hs;obtain⟨d0,d1,d2⟩:=cells3 (S1.out.at 0 rfl);go_wp2_with fail;refine(getc _ l most room i _ W1 S1.out.oldX (S1.out.g 0 rfl) hl hnl).mono ?_;rintro e W2 ⟨aon,cpn,rfl,hn1,hb⟩;clear d0 d1 d2;have S2:=Lib.hid ((S1.out.call hb).addN hn1);clear hb hn1;obtain⟨n,hn⟩ : ∃n,n=getL l i:=⟨_,rfl⟩;obtain⟨b,hb⟩ : ∃b,b=gotB l i:=⟨_,rfl⟩;rw[←hn]at S2 ⊢;rw[←hb];have HE:=Lib.hid (file_at hn hb);have HN:=Lib.hid hn;clear hn hb;go_upto_region 2 with(fail);refine code_fresh1 ?_;intro W3 hb hA0 hs;have S3:=Lib.hid (S2.out.new1 hb hA0);clear hb hA0 hs
 cases b with
 | false =>
    replace HE:=Lib.hid (HE.out.trans (if_pos rfl));have HZ:=Lib.hid (fileN_no (l:=l) (i:=i) (by rw[HE.out];decide));have h_r:=(S3.out.at 1 rfl);go_wp2_with (first | (refine wpList_store_row rfl 67 _ _ rfl _ rfl rfl h_r rfl (by kernel_rfl) rfl ?_;intro W4 hb hg hs hn;have S4:=Lib.hid (S3.out.set 1 rfl hb hg hs hn);clear hb hg hs hn));refine bodyPost_ret (HRET.out _ _ _ (S4.out.at 1 rfl) rfl _ rfl) rfl ?_;rw[HE.out,HZ.out];exact⟨_,_,rfl,NodeX.zero _ _,S4.out.bel⟩
 | true =>
    replace HE:=Lib.hid (HE.out.trans (if_neg (by simp)));by_cases h2:n.kind=2
    · replace HE:=Lib.hid (HE.out.trans (if_pos h2))
      (have qh21:(n.kind == 2)=true:=by simpa using h2);(have qh22:(n.kind != 2)=false:=by simpa using h2);(have qh23:decide (n.kind=2)=true:=by simpa using h2);clear h2;obtain⟨n0, -, -, -, -, -, -, -⟩:=cells8 (S3.out.at 2 rfl);have HZ:=Lib.hid (fileN_no (l:=l) (i:=i) (by rw[HE.out];decide));have h_r:=(S3.out.at 1 rfl);go_wp2_with (first | (refine wpList_store_row rfl 67 _ _ rfl _ rfl rfl h_r rfl (by kernel_rfl) rfl ?_;intro W4 hb hg hs hn;have S4:=Lib.hid (S3.out.set 1 rfl hb hg hs hn);clear hb hg hs hn));refine bodyPost_ret (HRET.out _ _ _ (S4.out.at 1 rfl) rfl _ rfl) rfl ?_;rw[HE.out,HZ.out];exact⟨_,_,rfl,NodeX.zero _ _,S4.out.bel⟩
    · replace HE:=Lib.hid (HE.out.trans (if_neg h2))
      (have qh21:(n.kind == 2)=false:=by simpa using h2);(have qh22:(n.kind != 2)=true:=by simpa using h2);(have qh23:decide (n.kind=2)=false:=by simpa using h2);clear h2;by_cases h1:n.kind=1
      · replace HE:=Lib.hid (HE.out.trans (if_neg (by simp[h1])))
        (have qh11:(n.kind == 1)=true:=by simpa using h1);(have qh12:(n.kind != 1)=false:=by simpa using h1);(have qh13:decide (n.kind=1)=true:=by simpa using h1);clear h1;obtain⟨n0, -, -, -, -, -, -, -⟩:=cells8 (S3.out.at 2 rfl);have HZ:=Lib.hid (fileN_ok HE.out);have h_r:=(S3.out.at 1 rfl);have h_n:=(S3.out.at 2 rfl);go_wp2_with (first | (refine wpList_load_row rfl 67 _ rfl _ rfl 67 _ (0,0) _ h_n Tryz.underlying67 rfl (by kernel_rfl) ?_) | (refine wpList_store_row rfl 67 _ _ rfl _ rfl rfl h_r rfl (by kernel_rfl) rfl ?_;intro W4 hb hg hs hn;have S4:=Lib.hid (S3.out.set 1 rfl hb hg hs hn);clear hb hg hs hn));refine bodyPost_ret (HRET.out _ _ _ (S4.out.at 1 rfl) rfl _ rfl) rfl ?_;rw[HE.out,HZ.out,←HN.out];exact⟨_,_,rfl,S4.out.nX 0 rfl,S4.out.bel⟩
      · replace HE:=Lib.hid (HE.out.trans (if_pos h1))
        (have qh11:(n.kind == 1)=false:=by simpa using h1);(have qh12:(n.kind != 1)=true:=by simpa using h1);(have qh13:decide (n.kind=1)=false:=by simpa using h1);clear h1;obtain⟨n0, -, -, -, -, -, -, -⟩:=cells8 (S3.out.at 2 rfl);have HZ:=Lib.hid (fileN_no (l:=l) (i:=i) (by rw[HE.out];decide));have h_r:=(S3.out.at 1 rfl);go_wp2_with (first | (refine wpList_store_row rfl 67 _ _ rfl _ rfl rfl h_r rfl (by kernel_rfl) rfl ?_;intro W4 hb hg hs hn;have S4:=Lib.hid (S3.out.set 1 rfl hb hg hs hn);clear hb hg hs hn));refine bodyPost_ret (HRET.out _ _ _ (S4.out.at 1 rfl) rfl _ rfl) rfl ?_;rw[HE.out,HZ.out];exact⟨_,_,rfl,NodeX.zero _ _,S4.out.bel⟩
set_option maxRecDepth 100000 in
set_option maxHeartbeats 4000000 in
theorem pread_c (l:List NodeL)(most room i a n':Int)(ao:Option Addr)(cap:Nat)(w:World)(hg:GivesX (fun _=>False) l (.slice ao l.length cap) w)(hl:l.length≤10000)(hnl : ∀n∈l,n.names.length≤10000) :
 Calls Tryz.prog 96 #[diskV ao l.length cap most room, .int .i64 i, .int .i64 a, .int .i64 n'] w fun e w'=>e = .returned (.tuple #[.string (bs (readL l i a n').1), .int .i64 (readL l i a n').2])∧Below w.heap.size w w':=by
 have S0:=Lib.hid (St.start (w:=w) (G:= [(l, .slice ao l.length cap)]) (N:= []) (fun _ h=>h.elim) (one_g hg) no_n);clear hg;go_enter Tryz.func96,Tryz.ntmps96;go_upto_region 1 with(fail);refine code_fresh1 ?_;intro W1 hb hA0 hs;have S1:=Lib.hid (S0.out.new1 hb hA0);clear hb hA0 hs;obtain⟨d0,d1,d2⟩:=cells3 (S1.out.at 0 rfl);go_wp2_with fail;refine(pfile_c _ l most room i _ _ W1 S1.out.oldX (S1.out.g 0 rfl) hl hnl).mono ?_;rintro e W2 ⟨aon,cpn,rfl,hn1,hb⟩;clear d0 d1 d2;have S2:=Lib.hid ((S1.out.call hb).addN hn1);clear hb hn1;obtain⟨n,hn⟩ : ∃n,n=fileNC l i:=⟨_,rfl⟩;obtain⟨f,hf⟩ : ∃f,f=fileE l i:=⟨_,rfl⟩;rw[←hn]at S2 ⊢;rw[←hf];have HN:=Lib.hid hn;have HF:=Lib.hid hf;clear hn hf;go_upto_region 2 with(fail);refine code_fresh1 ?_;intro W3 hb hA0 hs;have S3:=Lib.hid (S2.out.new1 hb hA0);clear hb hA0 hs;by_cases h0:f=0
 · subst h0
   replace HN:=Lib.hid (HN.out.trans (fileN_ok HF.out.symm));by_cases hneg:a<0∨n'<0
   · skip
     have HR:Hid (readL l i a n'=([],1)):=Lib.hid (by unfold readL;rw[←HF.out,if_neg (by simp),if_pos hneg]);by_cases ha:a<0
     · have i1:decide (a<0)=true:=decide_eq_true ha
       clear hneg ha;go_wp2_with fail;go_ret2;rw[HR.out];exact⟨rfl,S3.out.bel⟩
     · have i1:decide (a<0)=false:=decide_eq_false ha
       have i2:decide (n'<0)=true:=decide_eq_true (hneg.resolve_left ha);clear hneg ha;go_wp2_with fail;go_ret2;rw[HR.out];exact⟨rfl,S3.out.bel⟩
   · have i1:decide (a<0)=false:=decide_eq_false (fun h=>hneg (.inl h))
     have i2:decide (n'<0)=false:=decide_eq_false (fun h=>hneg (.inr h));have HR0:Hid (readL l i a n'=(headD (restD n.data a) n',0)):=Lib.hid (by unfold readL partD;rw[←HF.out,if_neg (by simp),if_neg hneg,←HN.out]);obtain⟨j,rfl⟩:=Int.eq_ofNat_of_zero_le (show 0≤a by omega);obtain⟨m,rfl⟩:=Int.eq_ofNat_of_zero_le (show 0≤n' by omega);clear hneg;obtain⟨-, -, -, -, -, -,n6, -⟩:=cells8 (S3.out.at 1 rfl);go_wp2_with fail;go_ret2;rw[HR0.out];exact⟨congrArg (fun s=>Ending.returned (.tuple #[.string s, .int .i64 0])) (part_ext n.data j m),S3.out.bel⟩
 · have qh01:(f == 0)=false:=by simpa using h0
   (have qh02:(f != 0)=true:=by simpa using h0);(have qh03:decide (f=0)=false:=by simpa using h0);have HR:Hid (readL l i a n'=([],f)):=Lib.hid (by unfold readL;rw[←HF.out,if_pos h0]);clear h0;go_wp2_with fail;go_ret2;rw[HR.out];exact⟨rfl,S3.out.bel⟩
end Go.Proofs.YtbjkkijickbppaaGreatDoor
