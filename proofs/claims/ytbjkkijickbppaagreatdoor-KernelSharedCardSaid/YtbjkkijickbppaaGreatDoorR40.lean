import Derived.Test.YtbjkkijickbppaaGreatDoorR39
import Derived.Test.YtbjkkijickbppaaGreatDoorProg
import Derived.Deep.RegionHeld3
namespace Go.Proofs.YtbjkkijickbppaaGreatDoor
open Go.RowKit Go.Shelf
attribute [local go_sem ↓] Go.wp_at_zero Go.wp_at_succ
theorem turn_one {X:Nat→Prop}{W W':World}(p fd:Nat)(v:Int){t:TypeId}{fr:Nat × Nat}(hX:Old X W)(hn:W'.heap[W.heap.size]? = some (.cells #[.int .i64 p, .int .i64 fd, .int .i64 v] t fr)):RdX 3 (.slice (some ⟨W.heap.size,0,none⟩) [TurnL.mk p fd v].length 1) [TurnL.mk p fd v].length (cellsU [⟨p,fd,v⟩]) X W':=by
 refine⟨rd_block (xs:=cellsU [⟨p,fd,v⟩]) hn rfl (show 1≤maxLen by decide) (Array.getElem?_eq_some_iff.1 hn).1,fun g hg=> ?_⟩;intro a n c e _;injection e with e;injection e with e;subst e;have:=hX g hg;show W.heap.size≠g;omega
theorem turn_none (X:Nat→Prop)(W:World):RdX 3 (.slice none ([]:List TurnL).length 0) ([]:List TurnL).length (cellsU []) X W:=RdX.none0 _ _ _
theorem put_old {ds:List DescL}{i:Nat}(h:i<ds.length)(x:DescL):putD1 ds i x=ds.set i x:=by unfold putD1;rw[if_neg (by omega)]
theorem eight_T {t:TabL}(hr:RightT t) : ∀r∈t.fs,r.length=8:=fun r h=>(hr.1 r h).1
theorem least_T {t:TabL}(hr:RightT t){k:Nat}(hk:k<t.fs.length) : ∀x∈t.fs[k], -1≤x:=fun x hx=>((hr.1 _ (List.getElem_mem hk)).2 x hx).1
theorem refs_T {t:TabL}(hr:RightT t) : ∀d∈t.ds,0≤d.refs:=fun d hd=>by
 obtain⟨i,hi⟩:=List.mem_iff_getElem?.1 hd;have:=(hr.2 i d hi).1;omega
theorem firstI_yes {r:List Int}{f:Nat}(hf:f=firstR r)(h:f<r.length):firstI r=(f:Int):=by unfold firstI;rw[←hf,if_pos h]
theorem firstI_no {r:List Int}(h: ¬firstR r<r.length):firstI r = -1:=by unfold firstI;rw[if_neg h]
theorem set_no1 {t:TabL}{i:Int}{x:DescL}(h:inD t i=false):setT t i x=t:=by
 unfold inD at h;rw[Bool.and_eq_false_iff,decide_eq_false_iff_not,decide_eq_false_iff_not]at h;unfold setT;refine if_pos ?_;rcases h with h | h
 · exact .inl (by omega)
 · exact .inr (.inl (by omega))
theorem inD_T {t:TabL}{i:Int}(h:inD t i=true) : ∃k:Nat,i=k∧k<t.ds.length:=by
 unfold inD at h;simp only[Bool.and_eq_true,decide_eq_true_iff]at h;obtain⟨k,rfl⟩:=Int.eq_ofNat_of_zero_le h.1;exact⟨k,rfl,by omega⟩
set_option maxRecDepth 100000 in
set_option maxHeartbeats 4000000 in
theorem pset_c (X:Nat→Prop)(t:TabL)(i:Int)(x:DescL)(ad af:Option Addr)(cap capf:Nat)(w:World)(hX:Old X w)(hT:TabX t (.slice ad t.ds.length cap) (.slice af t.fs.length capf) X w)(hz:SizeT t)(hr:RightT t) :
 Calls Tryz.prog 142 #[tabV ad t.ds.length cap af t.fs.length capf, .int .i64 i,dvalD x] w fun e w'=>TabIs X (setT t i x) e w w':=by
 have S0:=Lib.hid (Sf.start (G:= [TabX t (.slice ad t.ds.length cap) (.slice af t.fs.length capf)]) hX (th1 (TabX.firm _ _ _) hT));have HZ:=Lib.hid hz;have HRT:=Lib.hid hr;have H8:=Lib.hid (eight_T hr)
 have HRET:Hid (∀(W:World) (cs:Array Value) (fr),W.heap[w.heap.size+2]? = some (.cells cs 28 fr)→cs.size=2→∀tmps:Array Value,tmps.getD 6 undef = .pointer (some ⟨w.heap.size+2,0,none⟩)→(results Tryz.f142 tmps).run Tryz.prog W = .ok (.agg cs) W):=Lib.hid fun W cs fr h hs tmps ht =>
 results_cell_row (p:=6)  (ty:=28) rfl tmps W (w.heap.size+2) _ cs fr _ ht h Tryz.underlying28 rfl (by rw[hs];kernel_rfl)
 clear hX hT hz hr;go_enter Tryz.func142,Tryz.ntmps142;go_upto_region 1 with(fail);refine code_fresh3 ?_;intro W1 hb hA0 hA1 hA2 hs;have S1:=Lib.hid (S0.out.new3 hb hA0 hA1 hA2);clear hb hA0 hA1 hA2 hs;have h_d:=(S1.out.at 0 rfl);go_wp2_with (first | (refine wpList_load_row rfl 28 _ rfl _ rfl 28 _ (0,0) _ h_d Tryz.underlying28 rfl (by kernel_rfl) ?_));refine(phasD_c t _ _ _ _ _ (S1.out.g 0 rfl) i).mono ?_;rintro e W2 ⟨rfl,hb⟩;clear h_d;have S2:=Lib.hid (S1.out.call hb);clear hb
 cases hin:inD t i with
 | false =>
    have HR:Hid (setT t i x=t):=Lib.hid (set_no1 hin);clear hin;go_upto_region 2 with(fail);have h_r:=(S2.out.at 2 rfl);have h_d:=(S2.out.at 0 rfl);go_wp2_with (first | (refine wpList_load_row rfl 28 _ rfl _ rfl 28 _ (0,0) _ h_d Tryz.underlying28 rfl (by kernel_rfl) ?_) | (refine wpList_store_row rfl 28 _ _ rfl _ rfl rfl h_r rfl (by kernel_rfl) rfl ?_;intro W3 hb hg hs hn;have S3:=Lib.hid (S2.out.set 2 rfl hb hg hs hn);clear hb hg hs hn));refine bodyPost_ret (HRET.out _ _ _ (S3.out.at 2 rfl) rfl _ rfl) rfl ?_;rw[HR.out];exact⟨_,_,rfl,S3.out.gX 0 rfl,S3.out.bel⟩
 | true =>
    obtain⟨a,rfl,ha⟩:=inD_T hin;clear hin;(have a0:(0:Int)≤(a:Int):=by omega);(have a1:(a:Int)<(t.ds.length:Int):=by omega);obtain⟨b,off,ead, -, -, -, -,c4, -⟩:=TabX.desc (S2.out.g 0 rfl) a ha;subst ead;have hy0:=refs_T HRT.out _ (List.getElem_mem ha);obtain⟨y,hy⟩ : ∃y,y=t.ds[a]:=⟨_,rfl⟩;rw[←hy]at c4 hy0;have HS0:Hid (setT t (a:Int) x=if y.refs<1 then t else⟨t.ds.set a { x with refs:=y.refs},t.fs⟩):=Lib.hid (by unfold setT;rw[desc_at ha,←hy];by_cases h:y.refs<1;rw[if_pos (.inr (.inr h)),if_pos h];rw[if_neg (by omega),if_neg h,Int.toNat_natCast]);have HY:=Lib.hid hy;clear hy;obtain⟨d0,d1⟩:=cells2 (S2.out.at 0 rfl);by_cases h3:y.refs=0
    · have i3:decide (y.refs=0)=true:=decide_eq_true h3
      (have i4:(y.refs == 0)=true:=by rw[h3];rfl);have HR:=Lib.hid (HS0.out.trans (if_pos (by omega)));clear h3;go_upto_region 2 with(fail);clear d0 d1;have h_r:=(S2.out.at 2 rfl);have h_d:=(S2.out.at 0 rfl);go_wp2_with (first | (refine wpList_load_row rfl 28 _ rfl _ rfl 28 _ (0,0) _ h_d Tryz.underlying28 rfl (by kernel_rfl) ?_) | (refine wpList_store_row rfl 28 _ _ rfl _ rfl rfl h_r rfl (by kernel_rfl) rfl ?_;intro W3 hb hg hs hn;have S3:=Lib.hid (S2.out.set 2 rfl hb hg hs hn);clear hb hg hs hn));refine bodyPost_ret (HRET.out _ _ _ (S3.out.at 2 rfl) rfl _ rfl) rfl ?_;rw[HR.out];exact⟨_,_,rfl,S3.out.gX 0 rfl,S3.out.bel⟩
    · have i3:decide (y.refs=0)=false:=decide_eq_false h3
      (have i4:(y.refs == 0)=false:=by rw[beq_eq_false_iff_ne];exact h3);have HR:=Lib.hid (HS0.out.trans (if_neg (by omega)));clear h3 hy0;go_upto_region 3 with(fail);obtain⟨-, -, -, -,x4, -⟩:=cells6 (S2.out.at 1 rfl);(have fx:=fun j=>Lib.frozen_of_heap (S2.out.at 1 rfl) j);go_upto_region 4 with(fail);clear d0 d1 c4 x4 fx;refine code_set1 (S2.out.at 1 rfl) ?_;intro W3 hb hg hs hn;have S3:=Lib.hid (S2.out.set 1 rfl hb hg hs hn);clear hb hg hs hn;have h_x:W3.heap[w.heap.size+1]? = some (.cells #[.int .i64 x.ino, .int .i64 x.pos, .bool x.rd, .bool x.wr, .int .i64 y.refs, .int .i64 x.lock] 82 (0,0)):=S3.out.at 1 rfl;have h_d:=(S3.out.at 0 rfl);go_wp2_with (first | (refine wpList_load_row rfl 28 _ rfl _ rfl 28 _ (0,0) _ h_d Tryz.underlying28 rfl (by kernel_rfl) ?_) | (refine wpList_load_row rfl 82 _ rfl _ rfl 82 _ (0,0) _ h_x Tryz.underlying82 rfl (by kernel_rfl) ?_));refine(pwith_c _ t a { x with refs:=y.refs} [] _ _ _ _ _ _ W3 S3.out.oldX (S3.out.g 0 rfl) (turn_none _ _) HZ.out H8.out (Nat.le_of_lt ha) (Nat.le_of_ble_eq_true rfl) (fun u hu=>by cases hu)).mono ?_;rintro e W4 ⟨vd4,vf4,rfl,hT4,hb⟩;obtain⟨ad4,cap4,af4,capf4,rfl,rfl⟩:=hT4.form;clear h_x h_d;obtain⟨tn,htn⟩ : ∃tn:TabL,tn=⟨putD1 t.ds a { x with refs:=y.refs},turnF t.fs []⟩:=⟨_,rfl⟩;rw[←htn]at hT4 ⊢;have HTN:=Lib.hid htn;have S4:=Lib.hid ((S3.out.call hb).more (TabX.firm _ _ _) hT4);clear htn hb hT4;have h_r:=(S4.out.at 2 rfl);go_wp2_with (first | (refine wpList_store_row rfl 28 _ _ rfl _ rfl rfl h_r rfl (by kernel_rfl) rfl ?_;intro W5 hb hg hs hn;have S5:=Lib.hid (S4.out.set 2 rfl hb hg hs hn);clear hb hg hs hn))
      refine bodyPost_ret (HRET.out _ _ _ (S5.out.at 2 rfl) rfl _ rfl) rfl ?_;rw[HR.out];rw[show(⟨t.ds.set a { x with refs:=y.refs},t.fs⟩:TabL)=tn by rw[HTN.out,put_old ha];rfl];exact⟨_,_,rfl,S5.out.gX 1 rfl,S5.out.bel⟩
theorem prefs_small {t:TabL}(hr:RightT t)(hz:SizeT t){i:Nat}(hi:i<t.ds.length):0≤t.ds[i].refs∧t.ds[i].refs≤400:=by
 have h1:=(desc_right hr hi).1;have h2:=refs_bound t.fs i 20 20 hz.2.1 hz.2.2;omega
set_option maxRecDepth 100000 in
set_option maxHeartbeats 4000000 in
theorem pdup_c (X:Nat→Prop)(t:TabL)(p fd:Int)(ad af:Option Addr)(cap capf:Nat)(w:World)(hX:Old X w)(hT:TabX t (.slice ad t.ds.length cap) (.slice af t.fs.length capf) X w)(hz:SizeT t)(hr:RightT t) :
 Calls Tryz.prog 122 #[tabV ad t.ds.length cap af t.fs.length capf, .int .i64 p, .int .i64 fd] w fun e w'=>TabIs2 X (dupT t p fd).1 (.int .i64 (dupT t p fd).2.1) (dupT t p fd).2.2 e w w':=by
 have S0:=Lib.hid (Sf.start (G:= [TabX t (.slice ad t.ds.length cap) (.slice af t.fs.length capf)]) hX (th1 (TabX.firm _ _ _) hT));have HZ:=Lib.hid hz;have HRT:=Lib.hid hr;have H8:=Lib.hid (eight_T hr)
 have HRET:Hid (∀(W:World) (cs:Array Value) (fr),W.heap[w.heap.size+1]? = some (.cells cs 28 fr)→cs.size=2→∀tmps:Array Value,tmps.getD 6 undef = .pointer (some ⟨w.heap.size+1,0,none⟩)→(results Tryz.f122 tmps).run Tryz.prog W = .ok (.tuple #[.agg cs,tmps.getD 7 undef,tmps.getD 8 undef]) W):=Lib.hid fun W cs fr h hs tmps ht =>
 results_ctt (p:=6) (u:=7) (v:=8) (ty:=28) rfl tmps W (w.heap.size+1) _ cs fr _ ht h Tryz.underlying28 rfl (by rw[hs];kernel_rfl)
 clear hX hT hz hr;go_enter Tryz.func122,Tryz.ntmps122;go_upto_region 1 with(fail);refine code_fresh2 ?_;intro W1 hb hA0 hA1 hs;have S1:=Lib.hid (S0.out.new2 hb hA0 hA1);clear hb hA0 hA1 hs;have h_d:=(S1.out.at 0 rfl);go_wp2_with (first | (refine wpList_load_row rfl 28 _ rfl _ rfl 28 _ (0,0) _ h_d Tryz.underlying28 rfl (by kernel_rfl) ?_));refine(pgetH_c t _ _ _ _ _ (S1.out.g 0 rfl) p fd HRT.out).mono ?_;rintro e W2 ⟨hgot,hb⟩;clear h_d;have S2:=Lib.hid (S1.out.call hb);unfold GotIs at hgot;subst hgot;clear hb;obtain⟨y,hy⟩ : ∃y,y=foundT t p fd:=⟨_,rfl⟩;obtain⟨pl,hpl⟩ : ∃pl,pl=placeT t p fd:=⟨_,rfl⟩;obtain⟨hs,hhs⟩ : ∃hs,hs=hasT t p fd:=⟨_,rfl⟩;rw[←hy,←hpl,←hhs];have HY:=Lib.hid hy;have HPL:=Lib.hid hpl;have HHS:=Lib.hid hhs;clear hy hpl hhs;go_upto_region 2 with(fail);refine code_fresh1 ?_;intro W3 hb hA0 hs;have S3:=Lib.hid (S2.out.new1 hb hA0);clear hb hA0 hs
 cases hs with
 | false =>
    have HR:Hid (dupT t p fd=(t,0,12)):=Lib.hid (if_pos HHS.out.symm);have h_r:=(S3.out.at 1 rfl);have h_d:=(S3.out.at 0 rfl);go_wp2_with (first | (refine wpList_load_row rfl 28 _ rfl _ rfl 28 _ (0,0) _ h_d Tryz.underlying28 rfl (by kernel_rfl) ?_) | (refine wpList_store_row rfl 28 _ _ rfl _ rfl rfl h_r rfl (by kernel_rfl) rfl ?_;intro W4 hb hg hs hn;have S4:=Lib.hid (S3.out.set 1 rfl hb hg hs hn);clear hb hg hs hn));refine bodyPost_ret (HRET.out _ _ _ (S4.out.at 1 rfl) rfl _ rfl) rfl ?_;rw[HR.out];exact⟨_,_,rfl,S4.out.gX 0 rfl,S4.out.bel⟩
 | true =>
    have HR0:Hid (dupT t p fd=if(rowT t p).length≤firstR (rowT t p)then(t,0,13)else(⟨t.ds.set (placeT t p fd).toNat { foundT t p fd with refs:=(foundT t p fd).refs+1},putF t.fs p.toNat (firstR (rowT t p)) (placeT t p fd)⟩,((firstR (rowT t p):Nat):Int),0)):=Lib.hid (if_neg (by rw[←HHS.out];decide));obtain⟨a,m,rfl,rfl,ha,hm,h0⟩:=has_T HHS.out.symm;obtain⟨i,hi,hil,hrf⟩:=place_T HRT.out ha hm h0;obtain⟨e1,e2⟩:=found_at HHS.out.symm hi hil;have hpi:pl=(i:Int):=HPL.out.trans e1;subst hpi;have hyi:=HY.out.trans e2;have hrs:=prefs_small HRT.out HZ.out hil;rw[←hyi]at hrs;have HRS:=Lib.hid hrs;have HIL:=Lib.hid hil;(have i0:(0:Int)≤(i:Int):=by omega);(have i1:(i:Int)<(t.ds.length:Int):=by omega);(have a0:(0:Int)≤(a:Int):=by omega);(have a1:(a:Int)<(t.fs.length:Int):=by omega);have HM8:=Lib.hid (show m<8 by rw[row_at ha,H8.out _ (List.getElem_mem ha)]at hm;exact hm);clear e1 e2 hyi hrs hil hrf hi h0 hm;rw[row_at ha]at HR0;go_upto_region 4 with(fail);obtain⟨b,off,ar,cr,eaf,_,cR,hR⟩:=TabX.row (S3.out.g 0 rfl) a ha;subst eaf;have hr8:(t.fs[a]).length=8:=H8.out _ (List.getElem_mem ha);have hrm:=least_T HRT.out ha;obtain⟨r,hrow⟩ : ∃r,r=t.fs[a]:=⟨_,rfl⟩;rw[←hrow]at cR hR hr8 hrm;have HROW:=Lib.hid hrow;have HR8:=Lib.hid hr8;clear hrow hr8;rw[←HROW.out]at HR0;obtain⟨d0,d1⟩:=cells2 (S3.out.at 0 rfl);go_wp2_with fail;refine(index_c r _ _ _ hR hrm (by rw[HR8.out];decide)).mono ?_
    rintro e W4 ⟨rfl,hb⟩;clear cR d0 d1;have S4:=Lib.hid (S3.out.call hb);clear hR hrm;clear hb;by_cases hfr:r.length≤firstR r
    · rw[firstI_no (by omega)]
      have HR:=Lib.hid (HR0.out.trans (if_pos hfr));clear hfr;go_upto_region 6 with(fail);have h_r:=(S4.out.at 1 rfl);have h_d:=(S4.out.at 0 rfl);go_wp2_with (first | (refine wpList_load_row rfl 28 _ rfl _ rfl 28 _ (0,0) _ h_d Tryz.underlying28 rfl (by kernel_rfl) ?_) | (refine wpList_store_row rfl 28 _ _ rfl _ rfl rfl h_r rfl (by kernel_rfl) rfl ?_;intro W5 hb hg hs hn;have S5:=Lib.hid (S4.out.set 1 rfl hb hg hs hn);clear hb hg hs hn));refine bodyPost_ret (HRET.out _ _ _ (S5.out.at 1 rfl) rfl _ rfl) rfl ?_;rw[HR.out];exact⟨_,_,rfl,S5.out.gX 0 rfl,S5.out.bel⟩
    · obtain⟨f,hf⟩ : ∃f,f=firstR r:=⟨_,rfl⟩
      (have hf2:f<r.length:=by omega);rw[firstI_yes hf hf2];have HR:Hid (dupT t (a:Int) (m:Int)=(⟨t.ds.set i { y with refs:=y.refs+1},putF t.fs a f (i:Int)⟩,(f:Int),0)):=Lib.hid (by rw[HR0.out,if_neg hfr,←HPL.out,←HY.out,Int.toNat_natCast,Int.toNat_natCast,←hf]);have HF8:=Lib.hid (show f<8 by rw[←HR8.out];exact hf2);have f2:decide ((f:Int)<0)=false:=decide_eq_false (by omega);have w1:IntKind.i64.wrap (y.refs+1)=y.refs+1:=Go.IntWalk.i64_in _ (by have:=HRS.out;omega);clear hf hfr hf2 HR0;obtain⟨-, -, -, -,n4, -⟩:=cells6 (S4.out.at 2 rfl);(have fn:=fun j=>Lib.frozen_of_heap (S4.out.at 2 rfl) j);go_upto_region 8 with(fail);clear n4 fn;refine code_set1 (S4.out.at 2 rfl) ?_;intro W5 hb hg hs hn;have S5:=Lib.hid (S4.out.set 2 rfl hb hg hs hn);clear hb hg hs hn;have h_n:W5.heap[W2.heap.size]? = some (.cells #[.int .i64 y.ino, .int .i64 y.pos, .bool y.rd, .bool y.wr, .int .i64 (y.refs+1), .int .i64 y.lock] 82 (0,0)):=S5.out.at 2 rfl;have h_d:=(S5.out.at 0 rfl);go_wp2_with (first | (refine wpList_load_row rfl 28 _ rfl _ rfl 28 _ (0,0) _ h_d Tryz.underlying28 rfl (by kernel_rfl) ?_) | (refine wpList_load_row rfl 82 _ rfl _ rfl 82 _ (0,0) _ h_n Tryz.underlying82 rfl (by kernel_rfl) ?_) | (refine wpList_fresh1 ?_;intro W6 hb hn hs;have HU:=Lib.hid (turn_one (X:=Xo X [w.heap.size,w.heap.size+1,W2.heap.size]) a f (i:Int) S5.out.oldX hn);have S6:=Lib.hid (S5.out.call hb);clear hb hn hs))
      clear h_n h_d;refine(pwith_c _ t i { y with refs:=y.refs+1} [⟨a,f,(i:Int)⟩] _ _ _ _ _ _ W6 S6.out.oldX (S6.out.g 0 rfl) HU.out HZ.out H8.out (Nat.le_of_lt HIL.out) (Nat.le_of_ble_eq_true rfl) (fun u hu=>by rw[List.mem_singleton]at hu;subst hu;exact⟨ha,HF8.out⟩)).mono ?_;rintro e W7 ⟨vd7,vf7,rfl,hT7,hb⟩;obtain⟨ad7,cap7,af7,capf7,rfl,rfl⟩:=hT7.form;obtain⟨tn,htn⟩ : ∃tn:TabL,tn=⟨putD1 t.ds i { y with refs:=y.refs+1},turnF t.fs [⟨a,f,(i:Int)⟩]⟩:=⟨_,rfl⟩;rw[←htn]at hT7 ⊢;have HTN:=Lib.hid htn;have S7:=Lib.hid ((S6.out.call hb).more (TabX.firm _ _ _) hT7);clear htn hb hT7;have h_r:=(S7.out.at 1 rfl);go_wp2_with (first | (refine wpList_store_row rfl 28 _ _ rfl _ rfl rfl h_r rfl (by kernel_rfl) rfl ?_;intro W8 hb hg hs hn;have S8:=Lib.hid (S7.out.set 1 rfl hb hg hs hn);clear hb hg hs hn));refine bodyPost_ret (HRET.out _ _ _ (S8.out.at 1 rfl) rfl _ rfl) rfl ?_;rw[HR.out];rw[show(⟨t.ds.set i { y with refs:=y.refs+1},putF t.fs a f (i:Int)⟩:TabL)=tn by rw[HTN.out,put_old HIL.out];rfl];exact⟨_,_,rfl,S8.out.gX 1 rfl,S8.out.bel⟩
end Go.Proofs.YtbjkkijickbppaaGreatDoor
namespace Go.Proofs.YtbjkkijickbppaaGreatDoor
section
variable {P:Program} {md:Region.Mode} {ops:Array Oper} {Q:Exit→Act→World→Prop} {T F:World→Prop} {s:Nat}
def UntilD (T F:World→Prop)(s:Nat)(listed:Array Bool)(w:World):Prop:=T w∧(listed.getD s true=false→F w)
def anyD (P:Program)(md:Region.Mode)(ops:Array Oper)(Q:Exit→Act→World→Prop)(T F:World→Prop)(s:Nat):Nat→Array Bool→Act→World→Prop
 | 0,listed,a,w=>Region.ready md ops listed = []∧Q .normal a w
 | n+1,listed,a,w=>(Region.ready md ops listed = []→Q .normal a w) ∧
    ∀i,i∈Region.ready md ops listed→wpOp P ops Q i (fun a' w'=>UntilD T F s (listed.setIfInBounds i true) w'∧anyD P md ops Q T F s n (listed.setIfInBounds i true) a' w') a w
theorem anyD.any : ∀ {n:Nat} {listed:Array Bool} {a:Act} {w:World},anyD P md ops Q T F s n listed a w→wpAny P md ops Q n listed a w
 | 0,_,_,_,h=>h
 | _+1,_,_,_,h=>⟨h.1,fun i hi=>wpOp_mono (fun _ _ h'=>h'.2.any) (h.2 i hi)⟩
theorem getD_still {listed:Array Bool}{i:Nat}(h:listed.getD s true=true):(listed.setIfInBounds i true).getD s true=true:=by
 by_cases e:i=s
 · subst e
   rcases Nat.lt_or_ge i listed.size with h1 | h1
   · simp[h1]
   · simp
 · rw[getD_set_ne true e];exact h
theorem anyD.late : ∀ {n:Nat} {listed:Array Bool} {a:Act} {w:World},listed.getD s true=true→wpAnyH P md ops Q T n listed a w→anyD P md ops Q T F s n listed a w
 | 0,_,_,_,_,h=>h
 | _+1,_,_,_,hs,h=>⟨h.1,fun i hi=>wpOp_mono (fun _ _ h'=>⟨⟨h'.1,fun e=>absurd (getD_still hs) (by rw[e];decide)⟩,anyD.late (getD_still hs) h'.2⟩) (h.2 i hi)⟩
def waitsB (md:Region.Mode)(ops:Array Oper)(s i:Nat):Bool:=match ops[s]? with | some o=>o.after.any fun e=>Region.binds md e && decide (e.on=i) | none=>false
theorem anyD.core {i:Nat}{oi:Oper}{v:Value}(U:World→Prop)(R:Array Bool→Prop)(hi:ops[i]? = some oi)(hsel : ∀(j:Nat) (o:Oper) cs b,ops[j]? = some o→o.op≠ .select cs b)
 (hQ : ∀c a w,Q (.panic c) (a.put oi.dst v) w→Q (.panic c) a w) (his:i≠s) (hU : ∀listed w,R listed→UntilD T F s listed w→U w)
 (hR : ∀(listed:Array Bool) (j:Nat),R listed→i∈Region.ready md ops listed→j∈Region.ready md ops listed→j≠i→R (listed.setIfInBounds j true)) :
 ∀(n:Nat) (listed:Array Bool) (a:Act) (w:World),
  (∀j oj,ops[j]? = some oj→j≠i→listed.getD j true=false→(∀e∈oj.after,Region.binds md e=true→e.on≠i)→oi.apart ops oj=true) →
  i∈Region.ready md ops listed→YieldsIf P ops U oi v a→R listed→UntilD T F s listed w →
  anyD P md ops Q T F s n (listed.setIfInBounds i true) (a.put oi.dst v) w→anyD P md ops Q T F s (n+1) listed a w:=by
 (have hiw : ∀(listed:Array Bool) (w:World),UntilD T F s listed w→UntilD T F s (listed.setIfInBounds i true) w:=fun listed w h=>⟨h.1,fun e=>h.2 (by rw[getD_set_ne true his]at e;exact e)⟩);intro n
 induction n with
 | zero =>
    intro listed a w _ hr hy hl hS H;refine⟨fun h=>(by rw[h]at hr;cases hr),fun j hj=> ?_⟩;by_cases e:j=i
    · subst e;exact hy.wpOp hi (hU _ _ hl hS) ⟨hiw _ _ hS,H⟩
    · have h1:=ready_mono hj e
      rw[H.1]at h1
      cases h1
 | succ n ih =>
    intro listed a w hfree hr hy hl hS H;refine⟨fun h=>(by rw[h]at hr;cases hr),fun j hj=> ?_⟩;by_cases e:j=i
    · subst e;exact hy.wpOp hi (hU _ _ hl hS) ⟨hiw _ _ hS,H⟩
    · have h1:=H.2 j (ready_mono hj e)
      have hl':=hR listed j hl hr hj e;have hr':=ready_mono hr (Ne.symm e);obtain⟨hju,oj,hoj,hall⟩:=mem_ready.1 hj
      have hno : ∀d∈oj.after,Region.binds md d=true→d.on≠i:=by
       intro d hd hb heq;have g1:=hall d hd hb;have g0:=(mem_ready.1 hr).1;rw[heq]at g1;rcases Nat.lt_or_ge i listed.size with g | g
       · rw[Array.getD_eq_getD_getElem?,Array.getElem?_eq_getElem g]at g0 g1
         rw[show listed[i]=false from g0]at g1
         cases g1
       · rw[Array.getD_eq_getD_getElem?,Array.getElem?_eq_none g]at g1
         cases g1
      have h2:=wpOp_putIf hoj (hfree j oj hoj e hju hno) (fun cs b=>hsel i oi cs b hi) (fun cs b=>hsel j oj cs b hoj) hQ hy h1;refine wpOp_mono (fun a' w' h3=> ?_) h2;have h4:UntilD T F s (listed.setIfInBounds j true) w':=⟨h3.2.1.1,fun ee=>h3.2.1.2 (by rw[Array.setIfInBounds_comm _ _ (Ne.symm e),getD_set_ne true his];exact ee)⟩;refine⟨h4,ih (listed.setIfInBounds j true) a' w' (fun k ok hk hki hun hn=>hfree k ok hk hki ?_ hn) hr' h3.1 hl' h4 ?_⟩
      · by_cases ejk:j=k
        · subst ejk;exact hju
        · rw[getD_set_ne true ejk]at hun;exact hun
      · rw[Array.setIfInBounds_comm _ _ e]
        exact h3.2.2
section
variable {i:Nat} {oi:Oper} {v:Value} {n:Nat} {listed:Array Bool} {a:Act} {w:World}
theorem anyD.take (hi:ops[i]? = some oi)(hs:Region.noSelect ops=true)(hf:Region.free md ops listed i=true)(hr:(Region.ready md ops listed).contains i=true)
 (hQ : ∀c a w,Q (.panic c) (a.put oi.dst v) w→Q (.panic c) a w) (his:(i == s)=false) (hy:YieldsIf P ops T oi v a) (hS:UntilD T F s listed w)
 (h:anyD P md ops Q T F s n (listed.setIfInBounds i true) (a.put oi.dst v) w):anyD P md ops Q T F s (n+1) listed a w :=
  anyD.core T (fun _=>True) hi (Region.noSelect_spec hs) hQ (by simpa using his) (fun _ _ _ h=>h.1) (fun _ _ _ _ _ _=>trivial) n listed a w (Region.free_spec hi hf) (by simpa using hr) hy trivial hS h
theorem anyD.takeF (hi:ops[i]? = some oi)(hs:Region.noSelect ops=true)(hf:Region.free md ops listed i=true)(hr:(Region.ready md ops listed).contains i=true)
 (hQ : ∀c a w,Q (.panic c) (a.put oi.dst v) w→Q (.panic c) a w) (his:(i == s)=false) (hw:waitsB md ops s i=true) (hls:listed.getD s true=false) (hy:YieldsIf P ops (fun w=>T w∧F w) oi v a) (hS:UntilD T F s listed w)
 (h:anyD P md ops Q T F s n (listed.setIfInBounds i true) (a.put oi.dst v) w):anyD P md ops Q T F s (n+1) listed a w:=by
  refine anyD.core (fun w=>T w∧F w) (fun l=>l.getD s true=false) hi (Region.noSelect_spec hs) hQ (by simpa using his) (fun _ _ hl h=>⟨h.1,h.2 hl⟩) (fun l j hl hri hrj hne=> ?_) n listed a w (Region.free_spec hi hf) (by simpa using hr) hy hls hS h;rw[getD_set_ne true]
  · exact hl
  · rintro rfl
    obtain⟨_,o,ho,hall⟩:=mem_ready.1 hrj;unfold waitsB at hw;rw[ho]at hw;obtain⟨d,hd,hb⟩:=Array.any_eq_true'.1 hw;rw[Bool.and_eq_true,decide_eq_true_iff]at hb;have g1:=hall d hd hb.1;rw[hb.2]at g1;have g0:=(mem_ready.1 hri).1;rcases Nat.lt_or_ge i l.size with g | g
    · rw[Array.getD_eq_getD_getElem?,Array.getElem?_eq_getElem g]at g0 g1
      rw[show l[i]=false from g0]at g1
      cases g1
    · rw[Array.getD_eq_getD_getElem?,Array.getElem?_eq_none g]at g1
      cases g1
theorem anyD.one (hr:Region.ready md ops listed = [i])(ho:ops[i]? = some oi)(hsl:(listed.setIfInBounds i true).getD s true=true)
 (h : ∀K:Act→World→Prop,Shut (∀a' w',T w'→(T w'→wpAnyH P md ops Q T n (listed.setIfInBounds i true) a' w')→K a' w')→if Region.wanted oi (yielded ops a.tmps)=true then oi.wp P a w K Q else K (a.put oi.dst undef) w):anyD P md ops Q T F s (n+1) listed a w:=by
  refine⟨fun h0=>(by rw[hr]at h0;cases h0),fun j hj=> ?_⟩;rw[hr,List.mem_singleton]at hj;subst hj;have h1:=h (fun a' w'=>UntilD T F s (listed.setIfInBounds j true) w'∧anyD P md ops Q T F s n (listed.setIfInBounds j true) a' w') (fun a' w' ht h2=>⟨⟨ht,fun e=>absurd hsl (by rw[e];decide)⟩,anyD.late hsl (h2 ht)⟩);unfold wpOp;simp only[ho];split
  · rename_i hw
    rw[if_pos hw]at h1;exact .inl h1
  · rename_i hw
    rw[if_neg hw]at h1;exact h1
theorem wp_region_D {id:Nat}(hm:P.follows .mixedOrders=true)(hS:UntilD T F s (Array.replicate ops.size false) w.drew)
 (h:UntilD T F s (Array.replicate ops.size false) w.drew→anyD P .any ops Q T F s ops.size (Array.replicate ops.size false) a w.drew):(Code.region id ops true).wp P Q a w :=
  wp_region_any hm (anyD.any (h hS))
end
end
end Go.Proofs.YtbjkkijickbppaaGreatDoor
