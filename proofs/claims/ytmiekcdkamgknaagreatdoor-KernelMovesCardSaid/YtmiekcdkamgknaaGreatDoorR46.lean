import Derived.Test.YtmiekcdkamgknaaGreatDoorR45
import Derived.Test.YtmiekcdkamgknaaGreatDoorR26
import Derived.Test.YtmiekcdkamgknaaGreatDoorR25
import Derived.Deep.DeepCutAuto
import Derived.Deep.RegionHeld3
import Derived.Test.YtmiekcdkamgknaaGreatDoorR24
import Derived.Test.YtmiekcdkamgknaaGreatDoorR16
import Derived.Test.YtmiekcdkamgknaaGreatDoorR17
import Derived.Deep.MidRow
import Derived.StillTailTactics
import Derived.Test.YtmiekcdkamgknaaGreatDoorR21
import Derived.Test.YtmiekcdkamgknaaGreatDoorR23
import Derived.Deep.OwnRows
import Derived.Laws.CopyRow
import Derived.Laws.BytesString
import Derived.Lib.ConvBytes
import Derived.Lib.SlBuf
import Derived.Test.YtmiekcdkamgknaaGreatDoorR31
import Derived.Test.YtmiekcdkamgknaaGreatDoorR32
import Derived.Test.YtmiekcdkamgknaaGreatDoorR38
import Derived.Test.YtmiekcdkamgknaaGreatDoorR44
import Derived.Test.YtmiekcdkamgknaaGreatDoorR13
import Derived.Test.YtmiekcdkamgknaaGreatDoorR37
import Derived.Test.YtmiekcdkamgknaaGreatDoorR41
import Derived.Test.YtmiekcdkamgknaaGreatDoorR42
import Derived.Test.YtmiekcdkamgknaaGreatDoorR11
import Derived.MapKept
import Derived.RowKit3
import Derived.Below
namespace Go.Proofs.YtmiekcdkamgknaaGreatDoor
open Go.RowKit Go.Shelf
attribute [local go_sem ↓] Go.wp_at_zero Go.wp_at_succ
set_option maxRecDepth 100000 in
set_option maxHeartbeats 4000000 in
theorem pmay1_c (X:Nat→Prop)(S:Nat→Addr)(k:KernL)(a:Nat)(c:CallL)(ao ad af ap:Option Addr)(co cd cf cp:Nat)(bw:Nat)(w:World)(n:NodeL)(vn:Value)(want:Int)(hX:Old X w)(hq:X bw)(hW:w.heap[bw]? = some (.cells #[.slice ao k.l.length co, .int .i64 k.most, .int .i64 k.room, .slice ad k.t.ds.length cd, .slice af k.t.fs.length cf, .slice ap k.ps.length cp, .int .i64 (a:Int), .int .i64 c.kind, .int .i64 c.fd, .int .i64 c.fd2, .int .i64 c.n, .int .i64 c.mode, .int .i64 c.flags, .string (bs c.path), .string (bs c.path2), .string (bs c.data)] 61 (0,0)))(hD:DiskX k.l (.slice ao k.l.length co) X w)(hT:TabX k.t (.slice ad k.t.ds.length cd) (.slice af k.t.fs.length cf) X w)(hP:PsX k.ps (.slice ap k.ps.length cp) X w)(hE:EnvX S X w)(ha:a<k.ps.length) :
 Calls Tryz.prog 121 #[.pointer (some ⟨bw,0,none⟩),nval n vn, .int .i64 want] w fun e w'=>e = .returned (.bool (mayB n.mode n.owner (procL k.ps a).who want))∧Below w.heap.size w w':=by
 have S0:=zd (Sw.start (G:= [DiskX k.l (.slice ao k.l.length co),TabX k.t (.slice ad k.t.ds.length cd) (.slice af k.t.fs.length cf),PsX k.ps (.slice ap k.ps.length cp),EnvX S]) hX hq hW (th4 (DiskX.firm _ _) hD (TabX.firm _ _ _) hT (PsX.firm _ _) hP (EnvX.firm _) hE));have HW:=zd hW;have HA:=zd ha;obtain⟨x,hx⟩ : ∃x,x=procL k.ps a:=⟨_,rfl⟩;have HXP:=zd hx;rw[←hx];clear hx;clear hX hq hW hD hT hP hE ha;go_enter Tryz.func121,Tryz.ntmps121;go_upto_region 1 with(fail);refine code_fresh1 ?_;intro W1 hb hA0 hs;have S1:=zd (S0.out.new1 hb hA0);clear hb hA0 hs;have h_n:=(S1.out.at 1 rfl);refine wp_region_held_drew (S:=fun W=>W.heap[w.heap.size]? = some (.cells #[.int .i64 n.kind, .int .i64 n.mode, .int .i64 n.owner, .int .i64 n.links, .int .i64 n.opn, .int .i64 n.up, .string (bs n.data),vn] 78 (0,0))∧True) (by kernel_rfl) ⟨(S1.out.at 1 rfl),trivial⟩ (fun hHeld=> ?_);clear h_n;have S2:=zd (S1.out.call (Below.refl W1.heap.size W1).drew);generalize W1.drew=W2 at *;refine zY 0 ?_;refine zZ 1 (fun _ hSw=>(cells8 hSw.1).2.1) ?_;refine zY 2 ?_;refine zZ 3 (fun _ hSw=>(cells8 hSw.1).2.2.1) ?_;refine zY 4 ?_;refine zY 7 ?_;(refine zO 5 fun K hK=> ?_);go_simp;refine(pproc_c _ S k a c _ _ _ _ _ _ _ _ bw W2  S2.out.oldX (S2.out.inX 0 rfl) (S2.out.at 0 rfl) (S2.out.g 0 rfl) (S2.out.g 1 rfl) (S2.out.g 2 rfl) (S2.out.g 3 rfl) HA.out).mono ?_;rintro e W3 ⟨rfl,hb⟩;have S3:=zd (S2.out.call hb);rw[←HXP.out];clear hb hHeld;go_wp2_with fail;refine hK.out _ _ ⟨(S3.out.at 1 rfl),trivial⟩ (fun hHeld=> ?_)
 clear hK K;(try simp only[pt,Act.put]);refine wpAnyH_take (i:=6) (v:= .int .i64 x.who) rfl (by kernel_rfl) (by kernel_rfl) (by kernel_rfl) (fun _ _ _ h=>h) (Or.inl ⟨by rfl,?hy7⟩) hHeld ?rest7
 case hy7=>(intro w hSw;first | rfl | kernel_rfl | (go_simp;first | done | rfl | kernel_rfl))
 (try simp only[pt,Act.put]);(refine zO 8 fun K hK=> ?_);go_simp;refine(pmay_c n.mode n.owner x.who want W3).mono ?_;rintro e W4 ⟨rfl,hb⟩;have S4:=zd (S3.out.call hb);clear hb hHeld;go_wp2_with fail;refine hK.out _ _ ⟨(S4.out.at 1 rfl),trivial⟩ (fun hHeld=> ?_);clear hK K;(try simp only[pt,Act.put]);refine zY 9 ?_;refine wpAnyH_done (by kernel_rfl) ?_ _;go_wp2_with fail;go_ret;exact⟨rfl,S4.out.same 0 rfl HW.out⟩
def findK (k:KernL)(p:Int)(c:CallL)(follow:Bool):Int × Int :=
 if(baseK k p c.fd).2≠0 then(0,(baseK k p c.fd).2)else wnodeL (walkL k.l (procL k.ps p).who (baseK k p c.fd).1 c.path follow)
theorem find_no {k:KernL}{p:Int}{c:CallL}{follow:Bool}(h:(baseK k p c.fd).2≠0):findK k p c follow=(0,(baseK k p c.fd).2):=if_pos h
theorem find_is {k:KernL}{p:Int}{c:CallL}{follow:Bool}(h:(baseK k p c.fd).2=0):findK k p c follow=wnodeL (walkL k.l (procL k.ps p).who (baseK k p c.fd).1 c.path follow):=by unfold findK;rw[if_neg (by rw[h];decide)]
structure WkOk (k:KernL) (a:Nat) (c:CallL):Prop where
 ok:KrnOk k
 lt:a<k.ps.length
 live:liveB k.ps (a:Int)=true
 p1:c.path.length≤10000
 p2:c.path2.length≤10000
 dt:c.data.length≤1000
 f0 : -9223372036854775808≤c.fd
 f1:c.fd≤9223372036854775807
 g0 : -9223372036854775808≤c.fd2
 g1:c.fd2≤9223372036854775807
theorem KrnOk.nms {k:KernL}(h:KrnOk k) : ∀n∈k.l,n.names.length≤10000:=fun n hm=>Nat.le_trans (h.dsk.sm.2 n hm).2 (by decide)
set_option maxRecDepth 100000 in
set_option maxHeartbeats 4000000 in
theorem pfind_c (X:Nat→Prop)(S:Nat→Addr)(k:KernL)(a:Nat)(c:CallL)(ao ad af ap:Option Addr)(co cd cf cp:Nat)(bw:Nat)(w:World)(fo:Bool)(hX:Old X w)(hq:X bw)(hW:w.heap[bw]? = some (.cells #[.slice ao k.l.length co, .int .i64 k.most, .int .i64 k.room, .slice ad k.t.ds.length cd, .slice af k.t.fs.length cf, .slice ap k.ps.length cp, .int .i64 (a:Int), .int .i64 c.kind, .int .i64 c.fd, .int .i64 c.fd2, .int .i64 c.n, .int .i64 c.mode, .int .i64 c.flags, .string (bs c.path), .string (bs c.path2), .string (bs c.data)] 61 (0,0)))(hD:DiskX k.l (.slice ao k.l.length co) X w)(hT:TabX k.t (.slice ad k.t.ds.length cd) (.slice af k.t.fs.length cf) X w)(hP:PsX k.ps (.slice ap k.ps.length cp) X w)(hE:EnvX S X w)(ho:WkOk k a c) :
 Calls Tryz.prog 119 #[.pointer (some ⟨bw,0,none⟩), .bool fo] w fun e w'=>∃i n ao cp v,e = .returned (.tuple #[.int .i64 i,nval n (.slice ao n.names.length cp),v])∧ErrK (findK k a c fo).2 v∧NodeX X n (.slice ao n.names.length cp) w'∧((findK k a c fo).2=0→i=(findK k a c fo).1∧n=nodeL k.l i)∧Below w.heap.size w w':=by
 have S0:=zd (Sw.start (G:= [DiskX k.l (.slice ao k.l.length co),TabX k.t (.slice ad k.t.ds.length cd) (.slice af k.t.fs.length cf),PsX k.ps (.slice ap k.ps.length cp),EnvX S]) hX hq hW (th4 (DiskX.firm _ _) hD (TabX.firm _ _ _) hT (PsX.firm _ _) hP (EnvX.firm _) hE));have HW:=zd hW;have HO:=zd ho
 have HRET:Hid (∀(W:World) (cs:Array Value) (fr),W.heap[w.heap.size+0]? = some (.cells cs 78 fr)→cs.size=8→∀tmps:Array Value,tmps.getD 5 undef = .pointer (some ⟨w.heap.size+0,0,none⟩)→(results Tryz.f119 tmps).run Tryz.prog W = .ok (.tuple #[tmps.getD 4 undef, .agg cs,tmps.getD 6 undef]) W):=zd fun W cs fr h hs tmps ht =>
  results_tct (p:=5) (u:=4) (v:=6) (ty:=78) rfl tmps W (w.heap.size+0) _ cs fr _ ht h Tryz.underlying78 rfl (by rw[hs];kernel_rfl)
 clear hX hq hW hD hT hP hE ho;go_enter Tryz.func119,Tryz.ntmps119;go_upto_region 1 with(fail);refine code_fresh1 ?_;intro W1 hb hA0 hs;have S1:=zd (S0.out.new1 hb hA0);clear hb hA0 hs;obtain⟨-, -, -, -, -, -, -, -,wk8, -, -, -, -, -, -, -⟩:=cells16 (S1.out.at 0 rfl);go_wp2_with fail;refine(pbase_c _ S k a c _ _ _ _ _ _ _ _ bw W1 c.fd S1.out.oldX (S1.out.inX 0 rfl) (S1.out.at 0 rfl) (S1.out.g 0 rfl) (S1.out.g 1 rfl) (S1.out.g 2 rfl) (S1.out.g 3 rfl) HO.out.lt HO.out.ok.rig.tab HO.out.ok.dsk HO.out.f0 HO.out.f1).mono ?_;rintro e W2 ⟨who1,fr1,ev1,rfl,hev,hfr,hb⟩;clear wk8;have S2:=zd (S1.out.call hb);have HEV1:=zd hev;have HFR1:=zd hfr;clear hev hfr;clear hb;go_upto_region 2 with(first | (refine wpList_fresh1 ?_;intro W3 hb hn hs;have S3:=zd (S2.out.new1 hb hn);have h_a:=S3.out.at 2 rfl;clear hb hn hs) | (refine zs h_a ?_;intro W4 hb hg hs hn;have S4:=zd (S3.out.set 2 rfl hb hg hs hn);clear hb hg hs hn));clear h_a;obtain⟨e1,he⟩ : ∃e,e=(baseK k (a:Int) c.fd).2:=⟨_,rfl⟩;have HER1:=zd he;clear he;by_cases h0:e1=0
 rotate_left
 · have H01:=zd h0
   obtain⟨et1,ex1,rfl⟩:=(show ErrK e1 ev1 by rw[HER1.out];exact HEV1.out).no h0;clear h0;have HB:=zd (find_no (follow:=fo) (by rw[←HER1.out];exact H01.out));go_upto_region 3 with(fail);have h_r:=(S4.out.at 1 rfl);go_wp2_with (first | (refine zs h_r ?_;intro W5 hb hg hs hn;have S5:=zd (S4.out.set 1 rfl hb hg hs hn);clear hb hg hs hn));refine bodyPost_ret (HRET.out _ _ _ (S5.out.at 1 rfl) rfl _ rfl) rfl ?_;exact⟨_,zeroN,none,0,_,rfl,by rw[HB.out];exact HEV1.out,NodeX.zero _ _,fun h=>by rw[HB.out,←HER1.out]at h;exact absurd h H01.out,S5.out.same 0 rfl HW.out⟩
 · subst h0
   obtain rfl:=(show ErrK 0 ev1 by rw[HER1.out];exact HEV1.out).ok;obtain⟨rfl,rfl⟩:=HFR1.out HER1.out.symm;have HB:=zd (find_is (follow:=fo) HER1.out.symm);obtain⟨x,hx⟩ : ∃x,x=procL k.ps a:=⟨_,rfl⟩;obtain⟨fr,hfr⟩ : ∃f,f=(baseK k (a:Int) c.fd).1:=⟨_,rfl⟩;rw[←hx,←hfr]at S4 HB;have HXP:=zd hx;have HFR:=zd hfr;clear hx hfr HFR1;obtain⟨i,hi⟩ : ∃i,i=(wnodeL (walkL k.l x.who fr c.path fo)).1:=⟨_,rfl⟩;obtain⟨f,hf⟩ : ∃f,f=(wnodeL (walkL k.l x.who fr c.path fo)).2:=⟨_,rfl⟩;have HI:=zd hi;have HF:=zd hf;clear hi hf;go_upto_region 4 with(fail);have h_wk:=(S4.out.at 0 rfl);have h_a:=(S4.out.at 2 rfl);refine wp_region_held_drew (S:=fun W=>W.heap[bw]? = some (.cells #[.slice ao k.l.length co, .int .i64 k.most, .int .i64 k.room, .slice ad k.t.ds.length cd, .slice af k.t.fs.length cf, .slice ap k.ps.length cp, .int .i64 (a:Int), .int .i64 c.kind, .int .i64 c.fd, .int .i64 c.fd2, .int .i64 c.n, .int .i64 c.mode, .int .i64 c.flags, .string (bs c.path), .string (bs c.path2), .string (bs c.data)] 61 (0,0))∧W.heap[W2.heap.size]? = some (.cells #[.int .i64 x.who, .int .i64 fr] 167 (0,0))∧W.rangeAt bw 0 [.slice ao k.l.length co, .int .i64 k.most, .int .i64 k.room]∧True) (by kernel_rfl) ⟨(S4.out.at 0 rfl),(S4.out.at 2 rfl),w_disk (S4.out.at 0 rfl),trivial⟩ (fun hHeld=> ?_);clear h_wk h_a;have S5:=zd (S4.out.call (Below.refl W4.heap.size W4).drew);generalize W4.drew=W5 at *;refine zY 0 ?_;refine zY 1 ?_;refine zY 2 ?_;refine zY 3 ?_
   refine zM 4 Tryz.underlying24 (fun _ h=>h.2.2.1) ?_;refine zY 5 ?_;refine zZ 6 (fun _ hSw=>(cells2 hSw.2.1).1) ?_;refine zY 7 ?_;refine zZ 8 (fun _ hSw=>(cells2 hSw.2.1).2) ?_;refine zY 9 ?_;refine zY 10 ?_;refine zY 11 ?_;refine zY 12 ?_;refine zZ 13 (fun _ hSw=>(cells16 hSw.1).2.2.2.2.2.2.2.2.2.2.2.2.2.1) ?_;refine zY 14 ?_;(refine zO 15 fun K hK=> ?_);go_simp;refine(xnode_g _ k.l HO.out.ok.dsk k.most k.room x.who fr c.path fo HO.out.p1 _ W5 (S5.out.g 0 rfl) (S5.out.g 3 rfl).1.sent.err).mono ?_;rintro e W6 ⟨rfl,hb⟩;have S6:=zd (S5.out.call hb);rw[←HI.out,←HF.out];clear hb hHeld;go_wp2_with fail;refine hK.out _ _ ⟨(S6.out.at 0 rfl),(S6.out.at 2 rfl),w_disk (S6.out.at 0 rfl),trivial⟩ (fun hHeld=> ?_);clear hK K;(try simp only[pt,Act.put]);refine zY 16 ?_;refine zY 17 ?_;refine zY 18 ?_;refine zY 19 ?_;refine zY 20 ?_;refine wpAnyH_done (by kernel_rfl) ?_ _;by_cases h1:f=0
   · have i11:(f == 0)=true:=by simpa using h1
     have i12:decide (f=0)=true:=decide_eq_true h1;(have i13:(f != 0)=false:=by simpa using h1);subst h1;go_upto_region 7 with(fail);have h_wd:=w_disk (S6.out.at 0 rfl);go_wp2_with (first | (refine zm h_wd Tryz.underlying24 ?_));refine(get_g _ k.l k.most k.room i _ W6 S6.out.oldX (S6.out.g 0 rfl) HO.out.ok.len HO.out.ok.nms).mono ?_;rintro e W7 ⟨aon,cpn,rfl,hn,hb⟩;clear h_wd;have S7:=zd ((S6.out.call hb).more (NodeTh.firm _ _) hn);obtain⟨n,hnn⟩ : ∃n,n=nodeL k.l i:=⟨_,rfl⟩;obtain⟨g,hg⟩ : ∃g,g=gotB k.l i:=⟨_,rfl⟩;rw[←hnn]at S7 ⊢;rw[←hg];have HNN:=zd hnn;clear hnn hg;clear hb hn;go_upto_region 8 with(first | (refine wpList_fresh1 ?_;intro W8 hb hn hs;have S8:=zd (S7.out.new1 hb hn);have h_n:=S8.out.at 3 rfl;clear hb hn hs) | (refine zs h_n ?_;intro W9 hb hg hs hn;have S9:=zd (S8.out.set 3 rfl hb hg hs hn);clear hb hg hs hn));clear h_n;have h_n:=(S9.out.at 3 rfl);refine wp_region_held_drew (S:=fun W=>W.heap[W7.heap.size]? = some (.cells #[.int .i64 n.kind, .int .i64 n.mode, .int .i64 n.owner, .int .i64 n.links, .int .i64 n.opn, .int .i64 n.up, .string (bs n.data), .slice aon n.names.length cpn] 78 (0,0))∧True) (by kernel_rfl) ⟨(S9.out.at 3 rfl),trivial⟩ (fun hHeld=> ?_);clear h_n;have S10:=zd (S9.out.call (Below.refl W9.heap.size W9).drew);generalize W9.drew=W10 at *;refine zY 0 ?_;refine zR 1 Tryz.underlying78 (fun _ h=>h.1) ?_;refine zY 2 ?_;(refine zO 3 fun K hK=> ?_);rw[if_pos (by rfl)];refine zh (S10.out.at 1 rfl) ?_
     intro W11 hb hg hs hn;have S11:=zd (S10.out.set 1 rfl hb hg hs hn);clear hb hg hs hn hHeld;refine hK.out _ _ ⟨(S11.out.at 3 rfl),trivial⟩ (fun hHeld=> ?_);clear hK K;(try simp only[pt,Act.put]);refine zY 4 ?_;refine wpAnyH_done (by kernel_rfl) ?_ _;go_wp2_with fail;refine bodyPost_ret (HRET.out _ _ _ (S11.out.at 1 rfl) rfl _ rfl) rfl ?_;exact⟨_,n,aon,cpn,_,rfl,by rw[HB.out,←HF.out];exact ErrK.nil,S11.out.gX 4 rfl,fun _=>⟨by rw[HB.out,←HI.out],HNN.out⟩,S11.out.same 0 rfl HW.out⟩
   · have i11:(f == 0)=false:=by simpa using h1
     have i12:decide (f=0)=false:=decide_eq_false h1;(have i13:(f != 0)=true:=by simpa using h1);have H1:=zd h1;clear h1;obtain⟨-, -, -, -, -, -, -, -, -, -, -, -, -,wk13, -, -⟩:=cells16 (S6.out.at 0 rfl);go_wp2_with fail;refine(pwrong_c (bs c.path) f W6).mono ?_;rintro e W7 ⟨v,rfl,hv,hb⟩;clear wk13;have S7:=zd (S6.out.call hb);have HV:=zd hv;clear hb hv;have h_r:=(S7.out.at 1 rfl);go_wp2_with (first | (refine zs h_r ?_;intro W8 hb hg hs hn;have S8:=zd (S7.out.set 1 rfl hb hg hs hn);clear hb hg hs hn));refine bodyPost_ret (HRET.out _ _ _ (S8.out.at 1 rfl) rfl _ rfl) rfl ?_;exact⟨_,zeroN,none,0,v,rfl,by rw[HB.out,←HF.out];exact HV.out,NodeX.zero _ _,fun h=>by rw[HB.out,←HF.out]at h;exact absurd h H1.out,S8.out.same 0 rfl HW.out⟩
end Go.Proofs.YtmiekcdkamgknaaGreatDoor
namespace Go.Proofs.YtmiekcdkamgknaaGreatDoor
open Go.RowKit Go.Shelf
attribute [local go_sem ↓] Go.wp_at_zero Go.wp_at_succ
def WorkIs (X:Nat→Prop)(bw a:Nat)(c:CallL)(R:DoL)(e:Ending)(w w':World):Prop :=
 ∃r ar cr ev cs,e = .returned (.tuple #[replyV r (.slice ar r.ls.length cr),ev])∧ErrK R.2.e ev∧BelB bw w w'∧LsX r.ls (.slice ar r.ls.length cr) X w'∧w'.heap[bw]? = some (.cells cs 61 (0,0))
  ∧ (R.2.e=0→r=R.2∧∃ao co ad cd af cf ap cp,cs = #[.slice ao R.1.l.length co, .int .i64 R.1.most, .int .i64 R.1.room, .slice ad R.1.t.ds.length cd, .slice af R.1.t.fs.length cf, .slice ap R.1.ps.length cp, .int .i64 (a:Int), .int .i64 c.kind, .int .i64 c.fd, .int .i64 c.fd2, .int .i64 c.n, .int .i64 c.mode, .int .i64 c.flags, .string (bs c.path), .string (bs c.path2), .string (bs c.data)]
   ∧ DiskX R.1.l (.slice ao R.1.l.length co) X w'∧TabX R.1.t (.slice ad R.1.t.ds.length cd) (.slice af R.1.t.fs.length cf) X w'∧PsX R.1.ps (.slice ap R.1.ps.length cp) X w')
theorem WorkIs.no {X:Nat→Prop}{bw a:Nat}{c:CallL}{k:KernL}{n:Int}{r:ReplyL}{ar:Option Addr}{cr:Nat}{ev:Value}{cs:Array Value}{w w':World}(hv:ErrK n ev)(hn:n≠0)(hb:BelB bw w w')(hl:LsX r.ls (.slice ar r.ls.length cr) X w')(hw:w'.heap[bw]? = some (.cells cs 61 (0,0))) :
 WorkIs X bw a c (k,errR n) (.returned (.tuple #[replyV r (.slice ar r.ls.length cr),ev])) w w':=⟨r,ar,cr,ev,cs,rfl,hv,hb,hl,hw,fun h=>absurd h hn⟩
end Go.Proofs.YtmiekcdkamgknaaGreatDoor
namespace Go.Proofs.YtmiekcdkamgknaaGreatDoor
open Go.RowKit Go.Shelf
attribute [local go_sem ↓] Go.wp_at_zero Go.wp_at_succ
theorem wpList_load_midG {P:Program}{ops:Array Oper}{rest:List Oper}{op:Oper}{a:Act}{w:World}{Q:Exit→Act→World→Prop}(hw:Region.wanted op (yielded ops a.tmps)=true)(ty:TypeId)(x:Operand)(ho:op.op = .load ty x)
 (b o:Nat) (hx:a.eval x = .pointer (some ⟨b,o,none⟩)) (cs:List Value) (d:TypeDesc) (hc:w.rangeAt b o cs)
 (hu:P.underlying ty=some d) (hd:d.isRow=true) (hi:(P.info? ty).map (·.size)=some cs.length)
 (h:wpList P ops Q rest (a.put op.dst (.agg cs.toArray)) w):wpList P ops Q (op::rest) a w :=
  wpList_step fun _ hK=>by rw[if_pos hw];exact wp_load_mid ty x ho b o hx cs d hc hu hd hi (hK _ _ h)
end Go.Proofs.YtmiekcdkamgknaaGreatDoor
namespace Go.Proofs.YtmiekcdkamgknaaGreatDoor
open Go.RowKit Go.Shelf
attribute [local go_sem ↓] Go.wp_at_zero Go.wp_at_succ
def PosK (k:KernL):Prop:=∀d∈k.t.ds, -9223372036854775808≤d.pos∧d.pos≤9223372036854775807
theorem dat_node {k:KernL}(h:KrnOk k)(i:Int):(nodeL k.l i).data.length≤10000:=by
 unfold nodeL;split
 · unfold atI
   rcases Nat.lt_or_ge i.toNat k.l.length with h1 | h1
   · rw[List.getD_eq_getElem?_getD,List.getElem?_eq_getElem h1];exact Nat.le_trans (h.dsk.sm.2 _ (List.getElem_mem _)).1 (by decide)
   · rw[List.getD_eq_getElem?_getD,List.getElem?_eq_none h1];exact Nat.zero_le _
 · exact Nat.zero_le _
theorem read_far {k:KernL}(hk:KrnOk k){i a n:Int}(ha : -9223372036854775808≤a∧a≤9223372036854775807)(h:(readL k.l i a n).2=0) : -9223372036854775808≤a+((readL k.l i a n).1.length:Int)∧a+((readL k.l i a n).1.length:Int)≤9223372036854775807:=by
 obtain⟨hf,ha0,hn0,e⟩:=read_zero h;have hd:=dat_node hk i;rw[←getL_nodeL]at hd;rw[e];obtain⟨A,rfl⟩:=Int.eq_ofNat_of_zero_le ha0;obtain⟨N,rfl⟩:=Int.eq_ofNat_of_zero_le hn0;have hl:=part_len (getL k.l i).data A N;show _≤(A:Int)+((partD (getL k.l i).data (A:Int) (N:Int)).length:Int)∧(A:Int)+((partD (getL k.l i).data (A:Int) (N:Int)).length:Int)≤_;rw[hl];omega
theorem write_far {k:KernL}{i a:Int}{s:Nm}(hl:s.length≤1000)(ha : -9223372036854775808≤a∧a≤9223372036854775807)(h:(writeL k.l k.room i a s).2=0) : -9223372036854775808≤a+(s.length:Int)∧a+(s.length:Int)≤9223372036854775807:=by
 unfold writeL at h;split at h
 · rename_i h1;exact absurd h h1
 · split at h
   · cases h
   · split at h
     · rename_i h3;subst h3;simp only[List.length_nil];omega
     · split at h
       · cases h
       · omega
end Go.Proofs.YtmiekcdkamgknaaGreatDoor
namespace Go.Proofs.YtmiekcdkamgknaaGreatDoor
open Go.RowKit Go.Shelf
attribute [local go_sem ↓] Go.wp_at_zero Go.wp_at_succ
theorem dskOf {l:List NodeL}(hr:RightP l)(hs:Small l):Dsk l :=
 ⟨fun ms e=>⟨⟨by rw[←pl_len,e];exact Nat.le_trans hs.1 (by decide),fun n hn=>by rw[e]at hn;have:=(hs.2 n hn).2;omega,by rw[e];exact hr⟩,fun n hn=>by rw[e]at hn;have:=(hs.2 n hn).1;omega⟩,hs⟩
end Go.Proofs.YtmiekcdkamgknaaGreatDoor
namespace Go.Proofs.YtmiekcdkamgknaaGreatDoor
open Go.RowKit
def InI (n:Int):Prop:= -9223372036854775808≤n∧n≤9223372036854775807
theorem in0:InI 0:=⟨by decide,by decide⟩
def PosD (ds:List DescL):Prop:=∀d∈ds,InI d.pos
theorem posD_at {ds:List DescL}(h:PosD ds)(i:Nat):InI (ds.getD i zeroD).pos:=by
 rcases Nat.lt_or_ge i ds.length with h1 | h1
 · rw[List.getD_eq_getElem?_getD,List.getElem?_eq_getElem h1];exact h _ (List.getElem_mem _)
 · rw[List.getD_eq_getElem?_getD,List.getElem?_eq_none h1];exact in0
theorem posD_set {ds:List DescL}(h:PosD ds)(i:Nat){x:DescL}(hx:InI x.pos):PosD (ds.set i x):=fun d hd=>by
 rcases List.mem_or_eq_of_mem_set hd with h1 | rfl
 · exact h d h1
 · exact hx
theorem posT_desc {t:TabL}(h:PosD t.ds)(i:Int):InI (descT t i).pos:=posD_at h _
theorem posT_found {t:TabL}(h:PosD t.ds)(p fd:Int):InI (foundT t p fd).pos:=by
 unfold foundT;split
 · exact posT_desc h _
 · exact in0
theorem posT_set {t:TabL}(h:PosD t.ds)(i:Int){x:DescL}(hx:InI x.pos):PosD (setT t i x).ds:=by
 unfold setT;split
 · exact h
 · exact posD_set (x:= { x with refs:=(descT t i).refs}) h _ hx
theorem posT_put {ds:List DescL}(h:PosD ds)(i:Nat){x:DescL}(hx:InI x.pos):PosD (putD1 ds i x):=by
 unfold putD1;split
 · intro d hd
   rcases List.mem_append.1 hd with hd | hd
   · exact h d hd
   · rw[List.mem_singleton]at hd;subst hd;exact hx
 · exact posD_set h _ hx
theorem posT_open {t:TabL}(h:PosD t.ds)(p:Int){x:DescL}(hx:InI x.pos):PosD (openT t p x).1.ds:=by
 unfold openT;split
 · exact h
 · split
   · exact h
   · exact posT_put (x:= { x with refs:=1}) h _ hx
theorem posT_dup {t:TabL}(h:PosD t.ds)(p fd:Int):PosD (dupT t p fd).1.ds:=by
 unfold dupT;split
 · exact h
 · split
   · exact h
   · exact posD_set (x:= { foundT t p fd with refs:=(foundT t p fd).refs+1}) h _ (posT_found h p fd)
theorem posT_close {t:TabL}(h:PosD t.ds)(p fd:Int):PosD (closeT t p fd).1.ds:=by
 unfold closeT;split
 · exact h
 · refine posD_set h _ ?_
   split
   · exact in0
   · exact posT_found h _ _
theorem posT_lock {t:TabL}(h:PosD t.ds)(i kind:Int):PosD (lockT t i kind).1.ds:=by
 unfold lockT;split
 · exact h
 · split
   · exact h
   · split
     · exact h
     · exact posT_set h _ (x:=withL (descT t i) kind) (posT_desc h i)
structure KSt (c:Nat) (k:KernL):Prop where
 rig:RigK k
 siz:KrnS c k
 pos:PosD k.t.ds
theorem KSt.mono {c c':Nat}{k:KernL}(h:KSt c k)(hc:c≤c'):KSt c' k:=⟨h.rig,h.siz.mono hc,h.pos⟩
theorem KSt.ok {c:Nat}{k:KernL}(h:KSt c k)(hc:c≤120):KrnOk k :=
 have sr:=small_right h.rig h.siz
 ⟨h.rig,h.siz.mono hc,dskOf h.rig.rightP ⟨Nat.le_trans sr.1 (by decide),fun n hn=>⟨Nat.le_trans (sr.2 n hn).1 (by decide),by have:=(sr.2 n hn).2;omega⟩⟩⟩
structure CallOk (c:CallL):Prop where
 p1:c.path.length≤10000
 p2:c.path2.length≤10000
 dt:c.data.length≤1000
 f0:InI c.fd
 g0:InI c.fd2
 kd:Kd c.kind
theorem KSt.do {c:Nat}{k:KernL}(h:KSt c k)(hc:c≤120)(p:Int){x:CallL}(hx:CallOk x):KSt (c+1) (doK k p x).1:=by
 refine⟨right_do h.rig p x hx.kd,size_do h.siz p x,?_⟩;have hok:=h.ok hc;have hp:=h.pos;unfold doK;split
 · exact hp
 · split
   · unfold openK
     split
     · exact hp
     · split
       · exact hp
       · split
         · exact hp
         · unfold openFrom
           split
           · exact hp
           · split
             · unfold openNew
               split
               · exact hp
               · split
                 · exact hp
                 · unfold openAt
                   split
                   · exact hp
                   · exact posT_open hp _ (x:=newD x.flags _) in0
             · unfold openOld openAt
               split
               · exact hp
               · exact posT_open hp _ (x:=newD x.flags _) in0
   · split
     · unfold shutK
       split
       · exact hp
       · exact posT_close hp _ _
     · split
       · unfold descK
         split
         · exact hp
         · split
           · unfold readK
             split
             · exact hp
             · rename_i h3
               exact posT_set hp _ (x:=posD _ _) (read_far hok (posT_found hp _ _) (Decidable.of_not_not h3))
           · split
             · unfold writeK
               split
               · exact hp
               · rename_i h3
                 exact posT_set hp _ (x:=posD _ _) (write_far hx.dt (posT_found hp _ _) (Decidable.of_not_not h3))
             · split
               · unfold listK;split<;>exact hp
               · split
                 · unfold flockK
                   split
                   · exact hp
                   · exact posT_lock hp _ _
                 · unfold dupK
                   split
                   · exact hp
                   · exact posT_dup hp _ _
       · split
         · unfold renamedK
           split
           · exact hp
           · split<;>exact hp
         · split
           · unfold lookedK
             split
             · exact hp
             · split
               · exact hp
               · unfold lookAt
                 split
                 · exact hp
                 · split
                   · exact hp
                   · split
                     · exact hp
                     · split
                       · exact hp
                       · split
                         · exact hp
                         · exact hp
           · unfold changedK
             split<;>exact hp
end Go.Proofs.YtmiekcdkamgknaaGreatDoor
namespace Go.Proofs.YtmiekcdkamgknaaGreatDoor
open Go.RowKit Go.Shelf
attribute [local go_sem ↓] Go.wp_at_zero Go.wp_at_succ
def rowM (v:Value):Thing:=RdX 1 v 8 (intC [-1, -1, -1, -1, -1, -1, -1, -1])
def RowsT (vs:List Value):Thing:=fun X W=>∀v,v∈vs→rowM v X W
theorem RowsT.firm (vs:List Value):Firm (RowsT vs):=Firm.all fun _=>RdX.firm _ _ _ _
end Go.Proofs.YtmiekcdkamgknaaGreatDoor
namespace Go.Proofs.YtmiekcdkamgknaaGreatDoor
open Go.RowKit Go.Shelf
attribute [local go_sem ↓] Go.wp_at_zero Go.wp_at_succ
def SoundIs (k:KernL)(e:Ending)(w w':World):Prop:=∃b,e = .returned (.bool b)∧(b=true→SmallK k∧RigK k)∧Below w.heap.size w w'
theorem names_small {l:List NodeL}(h:Small l) : ∀n∈l,n.names.length≤10000:=fun n hn=>Nat.le_trans (h.2 n hn).2 (by decide)
set_option maxRecDepth 100000 in
set_option maxHeartbeats 4000000 in
theorem sound_c (X:Nat→Prop)(k:KernL)(ao ad af ap:Option Addr)(co cd cf cp:Nat)(w:World)(hX:Old X w)(hD:DiskX k.l (.slice ao k.l.length co) X w)(hT:TabX k.t (.slice ad k.t.ds.length cd) (.slice af k.t.fs.length cf) X w)(hP:PsX k.ps (.slice ap k.ps.length cp) X w)(hf:FitD k.l):Calls Tryz.prog 4 #[.agg #[.slice ao k.l.length co, .int .i64 k.most, .int .i64 k.room, .slice ad k.t.ds.length cd, .slice af k.t.fs.length cf, .slice ap k.ps.length cp]] w fun e w'=>SoundIs k e w w':=by
 have S0:=zd (Sf.start (G:= [DiskX k.l (.slice ao k.l.length co),TabX k.t (.slice ad k.t.ds.length cd) (.slice af k.t.fs.length cf),PsX k.ps (.slice ap k.ps.length cp)]) hX (th3 (DiskX.firm _ _) hD (TabX.firm _ _ _) hT (PsX.firm _ _) hP));have HF:=zd hf;clear hX hD hT hP hf;go_enter Tryz.func4,Tryz.ntmps4;go_upto_region 1 with(fail);refine code_fresh1 ?_;intro W1 hb hA0 hs;have S1:=zd (S0.out.new1 hb hA0);clear hb hA0 hs;have h_k:=(S1.out.at 0 rfl);go_wp2_with (first | (refine zl h_k Tryz.underlying31 ?_));refine(small_c k _ _ _ _ _ _ _ _ W1 (S1.out.g 0 rfl) (S1.out.g 1 rfl) (S1.out.g 2 rfl)).mono ?_;rintro e W2 ⟨b,rfl,hsm,hb⟩;clear h_k;have S2:=zd (S1.out.call hb);have HSM:=zd hsm;clear hsm hb
 cases b with
 | false =>
    go_wp2_with fail;go_ret;exact⟨false,rfl,fun h=>(by cases h),S2.out.bel⟩
 | true =>
    have HS:=zd (HSM.out rfl);have h_k:=(S2.out.at 0 rfl);go_wp2_with (first | (refine zl h_k Tryz.underlying31 ?_) | (refine zg h_k Tryz.underlying31 ?_));refine(kern_c _ k _ _ _ _ _ _ _ _ W2 S2.out.oldX (S2.out.g 0 rfl) (S2.out.g 1 rfl) (S2.out.g 2 rfl) (Nat.le_trans HS.out.disk.1 (by decide)) (names_small HS.out.disk) HS.out.tab (Nat.le_trans HS.out.ps (by decide))).mono ?_;rintro e W3 ⟨ao2,co2,ad2,cd2,ap2,cp2,rfl,hD,hT,hP,hb⟩;clear h_k;have S3:=zd ((((S2.out.call hb).more (DiskX.firm _ _) hD).more (TabX.firm _ _ _) hT).more (PsX.firm _ _) hP);clear hD hT hP hb;go_wp2_with fail;refine(rrightK_c k _ _ _ _ _ _ _ _ W3 (S3.out.g 3 rfl) (S3.out.g 4 rfl) (S3.out.g 5 rfl) HS.out.tab HS.out.disk HF.out (Nat.le_trans HS.out.ps (by decide))).mono ?_;rintro e W4 ⟨rfl,hb⟩;have S4:=zd (S3.out.call hb);clear hb;go_wp2_with fail;go_ret;exact⟨rightK k,rfl,fun h=>⟨HS.out,(right_K k).1 h⟩,S4.out.bel⟩
end Go.Proofs.YtmiekcdkamgknaaGreatDoor
namespace Go.Proofs.YtmiekcdkamgknaaGreatDoor
open Go.RowKit
theorem run_insert_i {P:Program}(mty kt et:TypeId)(r clock:Nat)(es:Array MapEntry)(n:Int)(val:Value)(w:World)(hm:P.underlying mty=some (.map kt et))(hk:P.underlying kt=some (.int .i64))(hb:w.heap[r]? = some (.map es clock))
 (hf:Instr.findNow (.int .i64) (.int .i64 n) es.toList 0=some none) :
 (Instr.mapUpdate mty (.map (some r)) (.int .i64 n) val).run P w = .ok () { w with heap:=w.heap.setIfInBounds r (.map (es.push { key:= .int .i64 n,val:=val,born:=clock}) (clock+1))}:=by
  have hc:(Instr.checkKey false 10000 kt (.int .i64 n)).run P w = .ok () w:=MapKept.run_checkKey (k:= .int .i64 n) hk (by simp[MapKept.IsKey]) false 9999;simp[Instr.mapUpdate,run_underlying hm,MapKept.run_getObj_map hb,hc,MapKept.run_findKey hk hf,MapKept.run_setObj_map _ hb,Result.andThen]
theorem wpList_insert_i {P:Program}{ops:Array Oper}{rest:List Oper}{op:Oper}{a:Act}{w:World}{Q:Exit→Act→World→Prop}(hgd:op.guard=none)(mty kt et:TypeId)(m k x:Operand)(ho:op.op = .insert mty m k x)
 (r clock:Nat) (es:Array MapEntry) (n:Int) (hm0:a.eval m = .map (some r)) (hk0:a.eval k = .int .i64 n) (hm:P.underlying mty=some (.map kt et)) (hk:P.underlying kt=some (.int .i64)) (hb:w.heap[r]? = some (.map es clock))
 (hf:Instr.findNow (.int .i64) (.int .i64 n) es.toList 0=some none)
 (h : ∀W',Below r w W'→W'.heap.size=w.heap.size→W'.heap[r]? = some (.map (es.push { key:= .int .i64 n,val:=a.eval x,born:=clock}) (clock+1))→wpList P ops Q rest (a.put op.dst undef) W'):wpList P ops Q (op::rest) a w:=by
  have hs:=MapKept.heap_set (w:=w) (o':= .map (es.push { key:= .int .i64 n,val:=a.eval x,born:=clock}) (clock+1)) hb;(refine wpList_plain hgd fun K hK=> ?_);unfold Oper.wp execOp;simp only[ho,hm0,hk0,run_insert_i mty kt et r clock es n (a.eval x) w hm hk hb hf,Sem.run_bind,Result.andThen_ok,Sem.run_pure];exact hK _ _ (h _ ⟨rfl,rfl,rfl,by simp,fun g hg=>hs.2 g (by omega)⟩ (by simp) hs.1)
theorem run_lookup_is {P:Program}(mty kt et:TypeId)(r clock:Nat)(es:Array MapEntry)(n:Int)(i:Nat)(v:Value)(w:World)(hm:P.underlying mty=some (.map kt et))(hk:P.underlying kt=some (.int .i64))(hb:w.heap[r]? = some (.map es clock))
 (hf:Instr.findNow (.int .i64) (.int .i64 n) es.toList 0=some (some (i,v))):(Instr.lookup mty (.map (some r)) (.int .i64 n) true).run P w = .ok (.tuple #[v, .bool true]) w:=by
  (have hc : ∀b,(Instr.checkKey b 10000 kt (.int .i64 n)).run P w = .ok () w:=fun b=>MapKept.run_checkKey (k:= .int .i64 n) hk (by simp[MapKept.IsKey]) b 9999);simp[Instr.lookup,run_underlying hm,MapKept.run_getObj_map hb,hc,MapKept.run_findKey hk hf,Result.andThen]
theorem run_lookup_no {P:Program}(mty kt et:TypeId)(r clock:Nat)(es:Array MapEntry)(n:Int)(z:Value)(w:World)(hm:P.underlying mty=some (.map kt et))(hk:P.underlying kt=some (.int .i64))(hb:w.heap[r]? = some (.map es clock))
 (hz:(zeroValue et).run P w = .ok z w) (hf:Instr.findNow (.int .i64) (.int .i64 n) es.toList 0=some none):(Instr.lookup mty (.map (some r)) (.int .i64 n) true).run P w = .ok (.tuple #[z, .bool false]) w:=by
  (have hc : ∀b,(Instr.checkKey b 10000 kt (.int .i64 n)).run P w = .ok () w:=fun b=>MapKept.run_checkKey (k:= .int .i64 n) hk (by simp[MapKept.IsKey]) b 9999);simp[Instr.lookup,run_underlying hm,MapKept.run_getObj_map hb,hc,MapKept.run_findKey hk hf,hz,Result.andThen]
end Go.Proofs.YtmiekcdkamgknaaGreatDoor
