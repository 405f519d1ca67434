import Derived.Test.YtmiekcdkamgknaaGreatDoorR47
import Derived.Test.YtmiekcdkamgknaaGreatDoorR46
import Derived.Test.YtmiekcdkamgknaaGreatDoorR37
import Derived.Test.YtmiekcdkamgknaaGreatDoorR45
import Derived.Test.YtmiekcdkamgknaaGreatDoorR26
import Derived.Test.YtmiekcdkamgknaaGreatDoorR25
import Derived.Deep.DeepCutAuto
import Derived.Deep.RegionHeld3
import Derived.Test.YtmiekcdkamgknaaGreatDoorR48
import Derived.Test.YtmiekcdkamgknaaGreatDoorR24
import Derived.Test.YtmiekcdkamgknaaGreatDoorR39
import Derived.ChangeKeysEq
import Derived.OwnWalk
import Derived.StillTailTactics
import Derived.Test.YtmiekcdkamgknaaGreatDoorR30
import Derived.Test.YtmiekcdkamgknaaGreatDoorR38
import Derived.Test.YtmiekcdkamgknaaGreatDoorR43
import Derived.Test.YtmiekcdkamgknaaGreatDoorR34
import Derived.Test.YtmiekcdkamgknaaGreatDoorR44
import Derived.Lib.QuietBelow
import Derived.Test.YtmiekcdkamgknaaGreatDoorR40
import Derived.Laws.EntriesVeiled
import Derived.Test.YtmiekcdkamgknaaGreatDoorR14
import Derived.Test.YtmiekcdkamgknaaGreatDoorR42
namespace Go.Proofs.YtmiekcdkamgknaaGreatDoor
open Go.RowKit Go.Shelf
attribute [local go_sem ↓] Go.wp_at_zero Go.wp_at_succ
section
variable {k:KernL} {p:Int} {c:CallL} (hl:liveB k.ps p=true)
include hl
theorem doL (h:c.kind=11∨c.kind=12∨c.kind=14):doK k p c=lookedK k p c:=do_look hl h
end
def vK (bw:Nat)(n:Int):Value :=
 if n=1 then .func (.func 59) #[.pointer (some ⟨bw,0,none⟩)] #[]else if n=2 then .func (.func 60) #[.pointer (some ⟨bw,0,none⟩)] #[]else if n=3 then .func (.func 61) #[.pointer (some ⟨bw,0,none⟩)] #[]else if n=4 then .func (.func 62) #[.pointer (some ⟨bw,0,none⟩)] #[]else if n=5 then .func (.func 63) #[.pointer (some ⟨bw,0,none⟩)] #[]else if n=6 then .func (.func 64) #[.pointer (some ⟨bw,0,none⟩)] #[]else if n=7 then .func (.func 65) #[.pointer (some ⟨bw,0,none⟩)] #[]else if n=8 then .func (.func 66) #[.pointer (some ⟨bw,0,none⟩)] #[]else if n=9 then .func (.func 67) #[.pointer (some ⟨bw,0,none⟩)] #[]else if n=10 then .func (.func 68) #[.pointer (some ⟨bw,0,none⟩)] #[]else if n=11 then .func (.func 69) #[.pointer (some ⟨bw,0,none⟩)] #[]else if n=12 then .func (.func 70) #[.pointer (some ⟨bw,0,none⟩)] #[]else if n=13 then .func (.func 71) #[.pointer (some ⟨bw,0,none⟩)] #[]else if n=14 then .func (.func 72) #[.pointer (some ⟨bw,0,none⟩)] #[]else if n=15 then .func (.func 73) #[.pointer (some ⟨bw,0,none⟩)] #[]else if n=16 then .func (.func 74) #[.pointer (some ⟨bw,0,none⟩)] #[]else if n=17 then .func (.func 75) #[.pointer (some ⟨bw,0,none⟩)] #[]else .nilFunc
def inK (n:Int):Bool:=decide (1≤n) && decide (n≤17)
theorem findm_k (bw:Nat)(n:Int)(h:1≤n∧n≤17) : ∃i,Instr.findNow (.int .i64) (.int .i64 n) (callsM bw).toList 0=some (some (i,vK bw n)):=by
 obtain⟨m,rfl⟩:=Int.eq_ofNat_of_zero_le (show 0≤n by omega);(have hm:m=1∨m=2∨m=3∨m=4∨m=5∨m=6∨m=7∨m=8∨m=9∨m=10∨m=11∨m=12∨m=13∨m=14∨m=15∨m=16∨m=17:=by omega);rcases hm with rfl | rfl | rfl | rfl | rfl | rfl | rfl | rfl | rfl | rfl | rfl | rfl | rfl | rfl | rfl | rfl | rfl<;>exact⟨_,rfl⟩
theorem findm_no (bw:Nat)(n:Int)(h: ¬(1≤n∧n≤17)):Instr.findNow (.int .i64) (.int .i64 n) (callsM bw).toList 0=some none:=by
 (have h1:(n == 1)=false:=by simpa using(show n≠1 by omega));(have h2:(n == 2)=false:=by simpa using(show n≠2 by omega));(have h3:(n == 3)=false:=by simpa using(show n≠3 by omega));(have h4:(n == 4)=false:=by simpa using(show n≠4 by omega));(have h5:(n == 5)=false:=by simpa using(show n≠5 by omega));(have h6:(n == 6)=false:=by simpa using(show n≠6 by omega));(have h7:(n == 7)=false:=by simpa using(show n≠7 by omega));(have h8:(n == 8)=false:=by simpa using(show n≠8 by omega));(have h9:(n == 9)=false:=by simpa using(show n≠9 by omega));(have h10:(n == 10)=false:=by simpa using(show n≠10 by omega));(have h11:(n == 11)=false:=by simpa using(show n≠11 by omega));(have h12:(n == 12)=false:=by simpa using(show n≠12 by omega));(have h13:(n == 13)=false:=by simpa using(show n≠13 by omega));(have h14:(n == 14)=false:=by simpa using(show n≠14 by omega));(have h15:(n == 15)=false:=by simpa using(show n≠15 by omega));(have h16:(n == 16)=false:=by simpa using(show n≠16 by omega));(have h17:(n == 17)=false:=by simpa using(show n≠17 by omega));simp[callsM,Instr.findNow,Instr.sameNow,h1,h2,h3,h4,h5,h6,h7,h8,h9,h10,h11,h12,h13,h14,h15,h16,h17]
theorem look_k (bw r:Nat)(n:Int)(w:World)(hm:w.heap[r]? = some (.map (callsM bw) 17)):(Instr.lookup 96 (.map (some r)) (.int .i64 n) true).run Tryz.prog w = .ok (.tuple #[vK bw n, .bool (inK n)]) w:=by
 by_cases h:1≤n∧n≤17
 · obtain⟨i,hf⟩:=findm_k bw n h
   rw[show inK n=true by unfold inK;rw[decide_eq_true h.1,decide_eq_true h.2];rfl];exact run_lookup_is _ 3 65 r 17 _ n i _ w Tryz.underlying96 Tryz.underlying3 hm hf
 · have hv:vK bw n = .nilFunc:=by
    unfold vK;rw[if_neg (by omega),if_neg (by omega),if_neg (by omega),if_neg (by omega),if_neg (by omega),if_neg (by omega),if_neg (by omega),if_neg (by omega),if_neg (by omega),if_neg (by omega),if_neg (by omega),if_neg (by omega),if_neg (by omega),if_neg (by omega),if_neg (by omega),if_neg (by omega),if_neg (by omega)]
   have hi:inK n=false:=by
    unfold inK;by_cases h1:1≤n
    · rw[decide_eq_false (show ¬n≤17 by omega),Bool.and_false]
    · rw[decide_eq_false h1,Bool.false_and]
   rw[hv,hi];exact run_lookup_no _ 3 65 r 17 _ n .nilFunc w Tryz.underlying96 Tryz.underlying3 hm (by kernel_rfl) (findm_no bw n h)
set_option maxRecDepth 100000 in
set_option maxHeartbeats 4000000 in
theorem pdo_c (X:Nat→Prop)(S:Nat→Addr)(k:KernL)(a:Nat)(c:CallL)(ao ad af ap:Option Addr)(co cd cf cp:Nat)(bw:Nat)(w:World)  (hX:Old X w)(hq:X bw)(hW:w.heap[bw]? = some (.cells #[.slice ao k.l.length co, .int .i64 k.most, .int .i64 k.room, .slice ad k.t.ds.length cd, .slice af k.t.fs.length cf, .slice ap k.ps.length cp, .int .i64 (a:Int), .int .i64 c.kind, .int .i64 c.fd, .int .i64 c.fd2, .int .i64 c.n, .int .i64 c.mode, .int .i64 c.flags, .string (bs c.path), .string (bs c.path2), .string (bs c.data)] 61 (0,0)))(hD:DiskX k.l (.slice ao k.l.length co) X w)(hT:TabX k.t (.slice ad k.t.ds.length cd) (.slice af k.t.fs.length cf) X w)(hP:PsX k.ps (.slice ap k.ps.length cp) X w)(hE:EnvX S X w)(ho:WkOk k a c)(hps:PosK k)(hkd:Kd c.kind) :
 Calls Tryz.prog 14 #[.pointer (some ⟨bw,0,none⟩)] w fun e w'=>WorkIs X bw a c (doK k a c) e w w':=by
 have S0:=zd (Sw.start (G:= [DiskX k.l (.slice ao k.l.length co),TabX k.t (.slice ad k.t.ds.length cd) (.slice af k.t.fs.length cf),PsX k.ps (.slice ap k.ps.length cp),EnvX S]) hX hq hW (th4 (DiskX.firm _ _) hD (TabX.firm _ _ _) hT (PsX.firm _ _) hP (EnvX.firm _) hE));have HO:=zd ho;have HKD:=zd hkd;have HPS:=zd hps;have HLV:=zd ho.live
 have HRET:Hid (∀(W:World) (cs:Array Value) (fr),W.heap[w.heap.size+0]? = some (.cells cs 40 fr)→cs.size=10→∀tmps:Array Value,tmps.getD 2 undef = .pointer (some ⟨w.heap.size+0,0,none⟩)→(results Tryz.f14 tmps).run Tryz.prog W = .ok (.tuple #[.agg cs,tmps.getD 3 undef]) W):=zd fun W cs fr h hs tmps ht =>
  results_ct (p:=2) (u:=3) (ty:=40) rfl tmps W (w.heap.size+0) _ cs fr _ ht h Tryz.underlying40 rfl (by rw[hs];kernel_rfl)
 clear hX hq hW hD hT hP hE ho hps hkd;go_enter Tryz.func14,Tryz.ntmps14;go_upto_region 1 with(fail);refine code_fresh1 ?_;intro W1 hb hA0 hs;have S1:=zd (S0.out.new1 hb hA0);clear hb hA0 hs;have h_wk:=(S1.out.at 0 rfl);refine wp_region_held_drew (S:=fun W=>W.heap[bw]? = some (.cells #[.slice ao k.l.length co, .int .i64 k.most, .int .i64 k.room, .slice ad k.t.ds.length cd, .slice af k.t.fs.length cf, .slice ap k.ps.length cp, .int .i64 (a:Int), .int .i64 c.kind, .int .i64 c.fd, .int .i64 c.fd2, .int .i64 c.n, .int .i64 c.mode, .int .i64 c.flags, .string (bs c.path), .string (bs c.path2), .string (bs c.data)] 61 (0,0))∧W.rangeAt bw 0 [.slice ao k.l.length co, .int .i64 k.most, .int .i64 k.room, .slice ad k.t.ds.length cd, .slice af k.t.fs.length cf, .slice ap k.ps.length cp]∧True) (by kernel_rfl) ⟨(S1.out.at 0 rfl),w_kern (S1.out.at 0 rfl),trivial⟩ (fun hHeld=> ?_);clear h_wk;have S2:=zd (S1.out.call (Below.refl W1.heap.size W1).drew);generalize W1.drew=W2 at *;refine zY 0 ?_;refine zY 1 ?_;refine zY 2 ?_;refine zM 3 Tryz.underlying31 (fun _ h=>h.2.1) ?_;refine zY 4 ?_;refine zY 5 ?_;refine zY 6 ?_;refine zZ 7 (fun _ hSw=>(cells16 hSw.1).2.2.2.2.2.2.1) ?_;(refine zO 8 fun K hK=> ?_);go_simp;refine(palive_c k (a:Int) _ _ _ _ _ _ _ _ W2 (S2.out.g 2 rfl)).mono ?_;rintro e W3 ⟨rfl,hb⟩;have S3:=zd (S2.out.call hb);rw[HLV.out];clear hb hHeld;go_wp2_with fail;refine hK.out _ _ ⟨(S3.out.at 0 rfl),w_kern (S3.out.at 0 rfl),trivial⟩ (fun hHeld=> ?_);clear hK K
 (try simp only[pt,Act.put]);refine zY 9 ?_;refine wpAnyH_done (by kernel_rfl) ?_ _;go_upto_region 3 with(fail);go_cut [4,5] (fun s4 s5 wx=>s4=vK bw c.kind∧s5 = .bool (inK c.kind)∧Hid (Sw X w bw [(bw,#[.slice ao k.l.length co, .int .i64 k.most, .int .i64 k.room, .slice ad k.t.ds.length cd, .slice af k.t.fs.length cf, .slice ap k.ps.length cp, .int .i64 (a:Int), .int .i64 c.kind, .int .i64 c.fd, .int .i64 c.fd2, .int .i64 c.n, .int .i64 c.mode, .int .i64 c.flags, .string (bs c.path), .string (bs c.path2), .string (bs c.data)],61),(w.heap.size,#[.int .i64 0, .int .i64 0, .string (bs []), .slice none 0 0, .int .i64 0, .int .i64 0, .int .i64 0, .int .i64 0, .int .i64 0, .int .i64 0],40)] [DiskX k.l (.slice ao k.l.length co),TabX k.t (.slice ad k.t.ds.length cd) (.slice af k.t.fs.length cf),PsX k.ps (.slice ap k.ps.length cp),EnvX S] wx))
 case first =>
  have h_wk:=(S3.out.at 0 rfl);refine wp_region_held_drew (S:=fun W=>W.heap[bw]? = some (.cells #[.slice ao k.l.length co, .int .i64 k.most, .int .i64 k.room, .slice ad k.t.ds.length cd, .slice af k.t.fs.length cf, .slice ap k.ps.length cp, .int .i64 (a:Int), .int .i64 c.kind, .int .i64 c.fd, .int .i64 c.fd2, .int .i64 c.n, .int .i64 c.mode, .int .i64 c.flags, .string (bs c.path), .string (bs c.path2), .string (bs c.data)] 61 (0,0))∧True) (by kernel_rfl) ⟨(S3.out.at 0 rfl),trivial⟩ (fun hHeld=> ?_);clear h_wk;have S4:=zd (S3.out.call (Below.refl W3.heap.size W3).drew);generalize W3.drew=W4 at *;refine zY 0 ?_;refine zY 2 ?_;refine zY 3 ?_;refine zY 4 ?_;refine zY 5 ?_;refine zZ 6 (fun _ hSw=>(cells16 hSw.1).2.2.2.2.2.2.2.1) ?_;(refine zO 1 fun K hK=> ?_);go_simp;refine(pcalls_c bw W4).mono ?_;rintro e W5 ⟨r,rfl,hm,hb⟩;have S5:=zd (S4.out.call hb);have hlk:=look_k bw r c.kind W5 hm;clear hb hHeld hm;go_wp2_with fail;refine hK.out _ _ ⟨(S5.out.at 0 rfl),trivial⟩ (fun hHeld=> ?_);clear hK K;(try simp only[pt,Act.put]);(refine zO 7 fun K hK=> ?_);go_simp;clear hlk;refine hK.out _ _ ⟨(S5.out.at 0 rfl),trivial⟩ (fun hHeld=> ?_);clear hK K;(try simp only[pt,Act.put]);refine zY 8 ?_;refine zY 9 ?_;refine zY 10 ?_;refine zY 11 ?_;refine zY 12 ?_;refine wpAnyH_done (by kernel_rfl) ?_ _;go_wp2_with fail;go_meet;exact⟨rfl,rfl,S5⟩
 case rest =>
  obtain⟨rfl,rfl,S4⟩:=hcut;generalize wc=W4 at *;by_cases k12:c.kind=12
  · have HK1:=zd k12
    have HR:=zd (doL (c:=c) HLV.out (by omega));rw[show vK bw c.kind = .func (.func 70) #[.pointer (some ⟨bw,0,none⟩)] #[]by rw[HK1.out];rfl,show inK c.kind=true by rw[HK1.out];rfl];clear k12;go_wp2_with fail;refine(pstat_c _ S k a c _ _ _ _ _ _ _ _ bw W4  S4.out.oldX (S4.out.inX 0 rfl) (S4.out.at 0 rfl) (S4.out.g 0 rfl) (S4.out.g 1 rfl) (S4.out.g 2 rfl) (S4.out.g 3 rfl) HO.out HK1.out).mono ?_;rintro e W5 ⟨r,ar,cr,ev,cs,rfl,hv,hb,hl,hw,hok⟩;by_cases h0:(lookedK k (a:Int) c).2.e=0
    · obtain⟨rfl,ao2,co2,ad2,cd2,af2,cf2,ap2,cp2,rfl,d1,d2,d3⟩:=hok h0
      have S5:=zd (((((S4.out.callw 0 rfl hb hw).more (LsX.firm _ _) hl).more (DiskX.firm _ _) d1).more (TabX.firm _ _ _) d2).more (PsX.firm _ _) d3);have HV:=zd hv;clear hv hb hl hw hok d1 d2 d3 h0;have h_s:=(S5.out.at 1 rfl);go_wp2_with (first | (refine zs h_s ?_;intro W6 hb hg hs hn;have S6:=zd (S5.out.set 1 rfl hb hg hs hn);clear hb hg hs hn));refine bodyPost_ret (HRET.out _ _ _ (S6.out.at 1 rfl) rfl _ rfl) rfl ?_;rw[HR.out];exact⟨_,ar,cr,ev,_,rfl,HV.out,S6.out.bel,S6.out.gX 4 rfl,S6.out.at 0 rfl,fun _=>⟨rfl,ao2,co2,ad2,cd2,af2,cf2,ap2,cp2,rfl,S6.out.gX 5 rfl,S6.out.gX 6 rfl,S6.out.gX 7 rfl⟩⟩
    · have S5:=zd ((S4.out.callw 0 rfl hb hw).more (LsX.firm _ _) hl)
      have HV:=zd hv;have H0:=zd h0;clear hv hb hl hw hok h0;have h_s:=(S5.out.at 1 rfl);go_wp2_with (first | (refine zs h_s ?_;intro W6 hb hg hs hn;have S6:=zd (S5.out.set 1 rfl hb hg hs hn);clear hb hg hs hn));refine bodyPost_ret (HRET.out _ _ _ (S6.out.at 1 rfl) rfl _ rfl) rfl ?_;rw[HR.out];exact⟨r,ar,cr,ev,_,rfl,HV.out,S6.out.bel,S6.out.gX 4 rfl,S6.out.at 0 rfl,fun h=>absurd h H0.out⟩
  · skip
    by_cases k14:c.kind=14
    · have HK1:=zd k14
      have HR:=zd (doL (c:=c) HLV.out (by omega));rw[show vK bw c.kind = .func (.func 72) #[.pointer (some ⟨bw,0,none⟩)] #[]by rw[HK1.out];rfl,show inK c.kind=true by rw[HK1.out];rfl];clear k12 k14;go_wp2_with fail;refine(pchdir_c _ S k a c _ _ _ _ _ _ _ _ bw W4  S4.out.oldX (S4.out.inX 0 rfl) (S4.out.at 0 rfl) (S4.out.g 0 rfl) (S4.out.g 1 rfl) (S4.out.g 2 rfl) (S4.out.g 3 rfl) HO.out HK1.out).mono ?_;rintro e W5 ⟨r,ar,cr,ev,cs,rfl,hv,hb,hl,hw,hok⟩;by_cases h0:(lookedK k (a:Int) c).2.e=0
      · obtain⟨rfl,ao2,co2,ad2,cd2,af2,cf2,ap2,cp2,rfl,d1,d2,d3⟩:=hok h0
        have S5:=zd (((((S4.out.callw 0 rfl hb hw).more (LsX.firm _ _) hl).more (DiskX.firm _ _) d1).more (TabX.firm _ _ _) d2).more (PsX.firm _ _) d3);have HV:=zd hv;clear hv hb hl hw hok d1 d2 d3 h0;have h_s:=(S5.out.at 1 rfl);go_wp2_with (first | (refine zs h_s ?_;intro W6 hb hg hs hn;have S6:=zd (S5.out.set 1 rfl hb hg hs hn);clear hb hg hs hn));refine bodyPost_ret (HRET.out _ _ _ (S6.out.at 1 rfl) rfl _ rfl) rfl ?_;rw[HR.out];exact⟨_,ar,cr,ev,_,rfl,HV.out,S6.out.bel,S6.out.gX 4 rfl,S6.out.at 0 rfl,fun _=>⟨rfl,ao2,co2,ad2,cd2,af2,cf2,ap2,cp2,rfl,S6.out.gX 5 rfl,S6.out.gX 6 rfl,S6.out.gX 7 rfl⟩⟩
      · have S5:=zd ((S4.out.callw 0 rfl hb hw).more (LsX.firm _ _) hl)
        have HV:=zd hv;have H0:=zd h0;clear hv hb hl hw hok h0;have h_s:=(S5.out.at 1 rfl);go_wp2_with (first | (refine zs h_s ?_;intro W6 hb hg hs hn;have S6:=zd (S5.out.set 1 rfl hb hg hs hn);clear hb hg hs hn));refine bodyPost_ret (HRET.out _ _ _ (S6.out.at 1 rfl) rfl _ rfl) rfl ?_;rw[HR.out];exact⟨r,ar,cr,ev,_,rfl,HV.out,S6.out.bel,S6.out.gX 4 rfl,S6.out.at 0 rfl,fun h=>absurd h H0.out⟩
    · skip
      exact absurd HKD.out (by unfold Kd;omega)
theorem doDead {k:KernL}{p:Int}{c:CallL}(h:liveB k.ps p=false):doK k p c=(k,errR 1):=by unfold doK;rw[if_pos (by rw[h];simp)]
def WorkP (X:Nat→Prop)(bw:Nat)(p:Int)(c:CallL)(R:DoL)(e:Ending)(w w':World):Prop :=
 ∃r ar cr ev cs,e = .returned (.tuple #[replyV r (.slice ar r.ls.length cr),ev])∧ErrK R.2.e ev∧BelB bw w w'∧LsX r.ls (.slice ar r.ls.length cr) X w'∧w'.heap[bw]? = some (.cells cs 61 (0,0))
  ∧ (R.2.e=0→r=R.2∧∃ao co ad cd af cf ap cp,cs = #[.slice ao R.1.l.length co, .int .i64 R.1.most, .int .i64 R.1.room, .slice ad R.1.t.ds.length cd, .slice af R.1.t.fs.length cf, .slice ap R.1.ps.length cp, .int .i64 p, .int .i64 c.kind, .int .i64 c.fd, .int .i64 c.fd2, .int .i64 c.n, .int .i64 c.mode, .int .i64 c.flags, .string (bs c.path), .string (bs c.path2), .string (bs c.data)]
   ∧ DiskX R.1.l (.slice ao R.1.l.length co) X w'∧TabX R.1.t (.slice ad R.1.t.ds.length cd) (.slice af R.1.t.fs.length cf) X w'∧PsX R.1.ps (.slice ap R.1.ps.length cp) X w')
set_option maxRecDepth 100000 in
set_option maxHeartbeats 4000000 in
theorem pdo_dead (X:Nat→Prop)(k:KernL)(p:Int)(c:CallL)(ao ad af ap:Option Addr)(co cd cf cp:Nat)(bw:Nat)(w:World)(hX:Old X w)(hq:X bw)(hW:w.heap[bw]? = some (.cells #[.slice ao k.l.length co, .int .i64 k.most, .int .i64 k.room, .slice ad k.t.ds.length cd, .slice af k.t.fs.length cf, .slice ap k.ps.length cp, .int .i64 p, .int .i64 c.kind, .int .i64 c.fd, .int .i64 c.fd2, .int .i64 c.n, .int .i64 c.mode, .int .i64 c.flags, .string (bs c.path), .string (bs c.path2), .string (bs c.data)] 61 (0,0)))(hP:PsX k.ps (.slice ap k.ps.length cp) X w)(hl:liveB k.ps p=false) :
 Calls Tryz.prog 14 #[.pointer (some ⟨bw,0,none⟩)] w fun e w'=>WorkP X bw p c (doK k p c) e w w':=by
 rw[doDead hl];have S0:=zd (Sw.start (G:= [PsX k.ps (.slice ap k.ps.length cp)]) hX hq hW (th1 (PsX.firm _ _) hP));have HLV:=zd hl
 have HRET:Hid (∀(W:World) (cs:Array Value) (fr),W.heap[w.heap.size+0]? = some (.cells cs 40 fr)→cs.size=10→∀tmps:Array Value,tmps.getD 2 undef = .pointer (some ⟨w.heap.size+0,0,none⟩)→(results Tryz.f14 tmps).run Tryz.prog W = .ok (.tuple #[.agg cs,tmps.getD 3 undef]) W):=zd fun W cs fr h hs tmps ht =>
 results_ct (p:=2) (u:=3) (ty:=40) rfl tmps W (w.heap.size+0) _ cs fr _ ht h Tryz.underlying40 rfl (by rw[hs];kernel_rfl)
 clear hX hq hW hP hl;go_enter Tryz.func14,Tryz.ntmps14;go_upto_region 1 with(fail);refine code_fresh1 ?_;intro W1 hb hA0 hs;have S1:=zd (S0.out.new1 hb hA0);clear hb hA0 hs;have h_wk:=(S1.out.at 0 rfl);refine wp_region_held_drew (S:=fun W=>W.heap[bw]? = some (.cells #[.slice ao k.l.length co, .int .i64 k.most, .int .i64 k.room, .slice ad k.t.ds.length cd, .slice af k.t.fs.length cf, .slice ap k.ps.length cp, .int .i64 p, .int .i64 c.kind, .int .i64 c.fd, .int .i64 c.fd2, .int .i64 c.n, .int .i64 c.mode, .int .i64 c.flags, .string (bs c.path), .string (bs c.path2), .string (bs c.data)] 61 (0,0))∧W.rangeAt bw 0 [.slice ao k.l.length co, .int .i64 k.most, .int .i64 k.room, .slice ad k.t.ds.length cd, .slice af k.t.fs.length cf, .slice ap k.ps.length cp]∧True) (by kernel_rfl) ⟨(S1.out.at 0 rfl),w_kern (S1.out.at 0 rfl),trivial⟩ (fun hHeld=> ?_);clear h_wk;have S2:=zd (S1.out.call (Below.refl W1.heap.size W1).drew);generalize W1.drew=W2 at *;refine zY 0 ?_;refine zY 1 ?_;refine zY 2 ?_;refine zM 3 Tryz.underlying31 (fun _ h=>h.2.1) ?_;refine zY 4 ?_;refine zY 5 ?_;refine zY 6 ?_;refine zZ 7 (fun _ hSw=>(cells16 hSw.1).2.2.2.2.2.2.1) ?_;(refine zO 8 fun K hK=> ?_);go_simp;refine(palive_c k p _ _ _ _ _ _ _ _ W2 (S2.out.g 0 rfl)).mono ?_;rintro e W3 ⟨rfl,hb⟩;have S3:=zd (S2.out.call hb);rw[HLV.out];clear hb hHeld;go_wp2_with fail;refine hK.out _ _ ⟨(S3.out.at 0 rfl),w_kern (S3.out.at 0 rfl),trivial⟩ (fun hHeld=> ?_);clear hK K;(try simp only[pt,Act.put])
 refine zY 9 ?_;refine wpAnyH_done (by kernel_rfl) ?_ _;have h_s:=(S3.out.at 1 rfl);go_wp2_with (first | (refine zs h_s ?_;intro W4 hb hg hs hn;have S4:=zd (S3.out.set 1 rfl hb hg hs hn);clear hb hg hs hn));refine bodyPost_ret (HRET.out _ _ _ (S4.out.at 1 rfl) rfl _ rfl) rfl ?_;exact⟨errR 0,none,0,_,_,rfl,ErrK.fault (n:=1) (by decide),S4.out.bel,LsX.none _ _,S4.out.at 0 rfl,fun h=>absurd (show(1:Int)=0 from h) (by decide)⟩
theorem pdo_any (X:Nat→Prop)(S:Nat→Addr)(k:KernL)(p:Int)(c:CallL)(ao ad af ap:Option Addr)(co cd cf cp:Nat)(bw:Nat)(w:World)(hX:Old X w)(hq:X bw)(hW:w.heap[bw]? = some (.cells #[.slice ao k.l.length co, .int .i64 k.most, .int .i64 k.room, .slice ad k.t.ds.length cd, .slice af k.t.fs.length cf, .slice ap k.ps.length cp, .int .i64 p, .int .i64 c.kind, .int .i64 c.fd, .int .i64 c.fd2, .int .i64 c.n, .int .i64 c.mode, .int .i64 c.flags, .string (bs c.path), .string (bs c.path2), .string (bs c.data)] 61 (0,0)))(hD:DiskX k.l (.slice ao k.l.length co) X w)(hT:TabX k.t (.slice ad k.t.ds.length cd) (.slice af k.t.fs.length cf) X w)(hP:PsX k.ps (.slice ap k.ps.length cp) X w)(hE:EnvX S X w)(hk:KrnOk k)(hps:PosK k)(h1:c.path.length≤10000)(h2:c.path2.length≤10000)(h3:c.data.length≤1000)(f0 : -9223372036854775808≤c.fd)(f1:c.fd≤9223372036854775807)(g0 : -9223372036854775808≤c.fd2)(g1:c.fd2≤9223372036854775807)(hkd:Kd c.kind) :
 Calls Tryz.prog 14 #[.pointer (some ⟨bw,0,none⟩)] w fun e w'=>WorkP X bw p c (doK k p c) e w w':=by
 cases hl:liveB k.ps p with
 | false=>exact pdo_dead X k p c _ _ _ _ _ _ _ _ bw w hX hq hW hP hl
 | true =>
    obtain⟨a,ha,rfl, -, -⟩:=live_in hl;exact pdo_c X S k a c _ _ _ _ _ _ _ _ bw w hX hq hW hD hT hP hE ⟨hk,ha,hl,h1,h2,h3,f0,f1,g0,g1⟩ hps hkd
end Go.Proofs.YtmiekcdkamgknaaGreatDoor
namespace Go.Proofs.YtmiekcdkamgknaaGreatDoor
open Go.RowKit Go.Shelf
attribute [local go_sem ↓] Go.wp_at_zero Go.wp_at_succ
set_option maxRecDepth 100000 in
set_option maxHeartbeats 4000000 in
theorem pDo_c (X:Nat→Prop)(S:Nat→Addr)(k:KernL)(p:Int)(c:CallL)(ao ad af ap:Option Addr)(co cd cf cp:Nat)(w:World)(hX:Old X w)(hD:DiskX k.l (.slice ao k.l.length co) X w)(hT:TabX k.t (.slice ad k.t.ds.length cd) (.slice af k.t.fs.length cf) X w)(hP:PsX k.ps (.slice ap k.ps.length cp) X w)(hE:EnvX S X w)(hk:KrnOk k)(hps:PosK k)(h1:c.path.length≤10000)(h2:c.path2.length≤10000)(h3:c.data.length≤1000)(f0 : -9223372036854775808≤c.fd)(f1:c.fd≤9223372036854775807)(g0 : -9223372036854775808≤c.fd2)(g1:c.fd2≤9223372036854775807)(hkd:Kd c.kind) :
 Calls Tryz.prog 7 #[.agg #[.slice ao k.l.length co, .int .i64 k.most, .int .i64 k.room, .slice ad k.t.ds.length cd, .slice af k.t.fs.length cf, .slice ap k.ps.length cp], .int .i64 p,callV c] w fun e w'=>DoIs X (doK k p c) e w w':=by
 have HDO:=zd (fun(Y:Nat→Prop) (bw:Nat) (W:World) (hX:Old Y W) (hq:Y bw) (hW:W.heap[bw]? = some (.cells #[.slice ao k.l.length co, .int .i64 k.most, .int .i64 k.room, .slice ad k.t.ds.length cd, .slice af k.t.fs.length cf, .slice ap k.ps.length cp, .int .i64 p, .int .i64 c.kind, .int .i64 c.fd, .int .i64 c.fd2, .int .i64 c.n, .int .i64 c.mode, .int .i64 c.flags, .string (bs c.path), .string (bs c.path2), .string (bs c.data)] 61 (0,0))) hD hT hP hE=>pdo_any Y S k p c ao ad af ap co cd cf cp bw W hX hq hW hD hT hP hE hk hps h1 h2 h3 f0 f1 g0 g1 hkd);have HWH:=zd (whole_do k p c);obtain⟨R,hR⟩ : ∃R,R=doK k p c:=⟨_,rfl⟩;rw[←hR]at HDO HWH ⊢;clear hR hk hps h1 h2 h3 f0 f1 g0 g1 hkd;have S0:=zd (Sf.start (G:= [DiskX k.l (.slice ao k.l.length co),TabX k.t (.slice ad k.t.ds.length cd) (.slice af k.t.fs.length cf),PsX k.ps (.slice ap k.ps.length cp),EnvX S]) hX (th4 (DiskX.firm _ _) hD (TabX.firm _ _ _) hT (PsX.firm _ _) hP (EnvX.firm _) hE))
 have HRET:Hid (∀(W:World) (cs cs2:Array Value) (fr fr2),W.heap[w.heap.size+2]? = some (.cells cs 31 fr)→cs.size=6→W.heap[w.heap.size+3]? = some (.cells cs2 40 fr2)→cs2.size=10→∀tmps:Array Value,tmps.getD 6 undef = .pointer (some ⟨w.heap.size+2,0,none⟩)→tmps.getD 7 undef = .pointer (some ⟨w.heap.size+3,0,none⟩)→(results Tryz.f7 tmps).run Tryz.prog W = .ok (.tuple #[.agg cs, .agg cs2]) W):=zd fun W cs cs2 fr fr2 h hs h2 hs2 tmps ht ht2 =>
 results_cc (p:=6) (q:=7) (ty:=31) (ty2:=40) rfl tmps W (w.heap.size+2) (w.heap.size+3) _ _ cs cs2 fr fr2 _ _ ht h ht2 h2 Tryz.underlying31 rfl (by rw[hs];kernel_rfl) Tryz.underlying40 rfl (by rw[hs2];kernel_rfl)
 clear hX hD hT hP hE;go_enter Tryz.func7,Tryz.ntmps7;go_upto_region 1 with(fail);refine code_fresh4 ?_;intro W1 hb hA0 hA1 hA2 hA3 hs;have S1:=zd (S0.out.new4 hb hA0 hA1 hA2 hA3);clear hb hA0 hA1 hA2 hA3 hs;have h_k:=(S1.out.at 0 rfl);have h_c:=(S1.out.at 1 rfl);go_upto_region 2 with((first | (refine zl h_k Tryz.underlying31 ?_) | (refine zl h_c Tryz.underlying44 ?_)));refine code_fresh1 ?_;intro W2 hb hA0 hs;clear h_k h_c;have S2:=zd (S1.out.new1 hb hA0);clear hb hA0 hs;go_wp2_with fail;obtain⟨bw,hbw⟩ : ∃b,b=W1.heap.size:=⟨_,rfl⟩;rw[←hbw]at S2 ⊢;clear hbw;refine(HDO.out _ bw W2 S2.out.oldX (S2.out.inX 4 rfl) (S2.out.at 4 rfl) (S2.out.g 0 rfl) (S2.out.g 1 rfl) (S2.out.g 2 rfl) (S2.out.g 3 rfl)).mono ?_;rintro e W3 ⟨r,ar,cr,ev,cs,rfl,hv,hb,hl,hw,hok⟩;by_cases h0:R.2.e=0
 · obtain⟨rfl,ao2,co2,ad2,cd2,af2,cf2,ap2,cp2,rfl,d1,d2,d3⟩:=hok h0
   have S3:=zd (((((S2.out.callw 4 rfl hb hw).more (LsX.firm _ _) hl).more (DiskX.firm _ _) d1).more (TabX.firm _ _ _) d2).more (PsX.firm _ _) d3);obtain rfl:=(show ErrK 0 ev by rw[←h0];exact hv).ok;clear hv hb hl hw hok d1 d2 d3 h0;go_upto_region 3 with(first | (refine wpList_fresh1 ?_;intro W4 hb hn hs;have S4:=zd (S3.out.new1 hb hn);have h_y:=S4.out.at 5 rfl;clear hb hn hs) | (refine zs h_y ?_;intro W5 hb hg hs hn;have S5:=zd (S4.out.set 5 rfl hb hg hs hn);clear hb hg hs hn));clear h_y;go_upto_region 5 with(fail);have h_wk:=(S5.out.at 4 rfl);have h_y:=(S5.out.at 5 rfl);refine wp_region_held_drew (S:=fun W=>W.heap[bw]? = some (.cells #[.slice ao2 R.1.l.length co2, .int .i64 R.1.most, .int .i64 R.1.room, .slice ad2 R.1.t.ds.length cd2, .slice af2 R.1.t.fs.length cf2, .slice ap2 R.1.ps.length cp2, .int .i64 p, .int .i64 c.kind, .int .i64 c.fd, .int .i64 c.fd2, .int .i64 c.n, .int .i64 c.mode, .int .i64 c.flags, .string (bs c.path), .string (bs c.path2), .string (bs c.data)] 61 (0,0))∧W.heap[W3.heap.size]? = some (.cells #[.int .i64 R.2.e, .int .i64 R.2.n, .string (bs R.2.s), .slice ar R.2.ls.length cr, .int .i64 R.2.i.ino, .int .i64 R.2.i.kind, .int .i64 R.2.i.mode, .int .i64 R.2.i.owner, .int .i64 R.2.i.links, .int .i64 R.2.i.size] 40 (0,0))∧W.rangeAt bw 0 [.slice ao2 R.1.l.length co2, .int .i64 R.1.most, .int .i64 R.1.room, .slice ad2 R.1.t.ds.length cd2, .slice af2 R.1.t.fs.length cf2, .slice ap2 R.1.ps.length cp2]∧True) (by kernel_rfl) ⟨(S5.out.at 4 rfl),(S5.out.at 5 rfl),w_kern (S5.out.at 4 rfl),trivial⟩ (fun hHeld=> ?_)
   clear h_wk h_y;have S6:=zd (S5.out.call (Below.refl W5.heap.size W5).drew);generalize W5.drew=W6 at *;refine zY 0 ?_;refine zY 1 ?_;refine zY 2 ?_;refine zM 3 Tryz.underlying31 (fun _ h=>h.2.2.1) ?_;refine zR 4 Tryz.underlying40 (fun _ h=>h.2.1) ?_;(refine zO 5 fun K hK=> ?_);rw[if_pos (by rfl)];refine zh (S6.out.at 2 rfl) ?_;intro W7 hb hg hs hn;have S7:=zd (S6.out.set 2 rfl hb hg hs hn);clear hb hg hs hn hHeld;refine hK.out _ _ ⟨(S7.out.at 4 rfl),(S7.out.at 5 rfl),w_kern (S7.out.at 4 rfl),trivial⟩ (fun hHeld=> ?_);clear hK K;(try simp only[pt,Act.put]);(refine zO 6 fun K hK=> ?_);rw[if_pos (by rfl)];refine zh (S7.out.at 3 rfl) ?_;intro W8 hb hg hs hn;have S8:=zd (S7.out.set 3 rfl hb hg hs hn);clear hb hg hs hn hHeld;refine hK.out _ _ ⟨(S8.out.at 4 rfl),(S8.out.at 5 rfl),w_kern (S8.out.at 4 rfl),trivial⟩ (fun hHeld=> ?_);clear hK K;(try simp only[pt,Act.put]);refine wpAnyH_done (by kernel_rfl) ?_ _;go_wp2_with fail;refine bodyPost_ret (HRET.out _ _ _ _ _ (S8.out.at 2 rfl) rfl (S8.out.at 3 rfl) rfl _ rfl rfl) rfl ?_;exact⟨_,_,_,_,_,_,_,_,_,_,rfl,S8.out.gX 5 rfl,S8.out.gX 6 rfl,S8.out.gX 7 rfl,S8.out.gX 4 rfl,S8.out.bel⟩
 · obtain⟨n,hn⟩ : ∃n,n=R.2.e:=⟨_,rfl⟩
   have HR:Hid (R=(k,errR n)):=zd (by have h:=HWH.out h0;rw[hn];exact Prod.ext h.1 h.2);rw[←hn]at hv h0;have HV:=zd ((hv.resolve_left fun h=>h0 h.1).2);obtain⟨et,ex,rfl⟩:=hv.no h0;have S3:=zd ((S2.out.callw 4 rfl hb hw).more (LsX.firm _ _) hl);clear hv hb hl hw hok h0 hn;go_upto_region 3 with(first | (refine wpList_fresh1 ?_;intro W4 hb hn hs;have S4:=zd (S3.out.new1 hb hn);have h_y:=S4.out.at 5 rfl;clear hb hn hs) | (refine zs h_y ?_;intro W5 hb hg hs hn;have S5:=zd (S4.out.set 5 rfl hb hg hs hn);clear hb hg hs hn));clear h_y;go_upto_region 4 with(fail);have h_k:=(S5.out.at 0 rfl);refine wp_region_held_drew (S:=fun W=>W.heap[w.heap.size]? = some (.cells #[.slice ao k.l.length co, .int .i64 k.most, .int .i64 k.room, .slice ad k.t.ds.length cd, .slice af k.t.fs.length cf, .slice ap k.ps.length cp] 31 (0,0))∧True) (by kernel_rfl) ⟨(S5.out.at 0 rfl),trivial⟩ (fun hHeld=> ?_);clear h_k;have S6:=zd (S5.out.call (Below.refl W5.heap.size W5).drew);generalize W5.drew=W6 at *;refine zR 0 Tryz.underlying31 (fun _ h=>h.1) ?_;refine zY 1 ?_;(refine zO 2 fun K hK=> ?_);go_simp;refine(knumber_any (.iface et ex) n W6 HV.out (S6.out.g 3 rfl).1.sent.err).mono ?_;rintro e W7 ⟨rfl,hb⟩;have S7:=zd (S6.out.call hb);clear hb hHeld;go_wp2_with fail;refine hK.out _ _ ⟨(S7.out.at 0 rfl),trivial⟩ (fun hHeld=> ?_);clear hK K;(try simp only[pt,Act.put]);refine zY 3 ?_;(refine zO 4 fun K hK=> ?_);rw[if_pos (by rfl)];refine zh (S7.out.at 2 rfl) ?_;intro W8 hb hg hs hn
   have S8:=zd (S7.out.set 2 rfl hb hg hs hn);clear hb hg hs hn hHeld;refine hK.out _ _ ⟨(S8.out.at 0 rfl),trivial⟩ (fun hHeld=> ?_);clear hK K;(try simp only[pt,Act.put]);(refine zO 5 fun K hK=> ?_);rw[if_pos (by rfl)];refine zh (S8.out.at 3 rfl) ?_;intro W9 hb hg hs hn;have S9:=zd (S8.out.set 3 rfl hb hg hs hn);clear hb hg hs hn hHeld;refine hK.out _ _ ⟨(S9.out.at 0 rfl),trivial⟩ (fun hHeld=> ?_);clear hK K;(try simp only[pt,Act.put]);refine wpAnyH_done (by kernel_rfl) ?_ _;go_wp2_with fail;refine bodyPost_ret (HRET.out _ _ _ _ _ (S9.out.at 2 rfl) rfl (S9.out.at 3 rfl) rfl _ rfl rfl) rfl ?_;rw[HR.out];exact⟨_,_,_,_,_,_,_,_,_,_,rfl,S9.out.gX 0 rfl,S9.out.gX 1 rfl,S9.out.gX 2 rfl,LsX.none _ _,S9.out.bel⟩
end Go.Proofs.YtmiekcdkamgknaaGreatDoor
namespace Go.Proofs.YtmiekcdkamgknaaGreatDoor
open Go.RowKit Go.Shelf
attribute [local go_sem ↓] Go.wp_at_zero Go.wp_at_succ
def RowN (g n:Nat)(f:Nat→Nat × Int)(W:World):Prop:=∃cur t,W.heap[g]? = some (.cells cur t (0,0))∧∀i,i<n→cur[i*2]? = some (.int .i64 ((f i).1:Int))∧cur[i*2+1]? = some (.int .i64 (f i).2)
theorem RowN.lt {g n:Nat}{f:Nat→Nat × Int}{W:World}(h:RowN g n f W):g<W.heap.size:=by
 obtain⟨cur,t,h,_⟩:=h;exact(Array.getElem?_eq_some_iff.1 h).1
theorem RowN.keep {g n:Nat}{f:Nat→Nat × Int}{W W':World}(h:RowN g n f W)(hb:Below W.heap.size W W'):RowN g n f W':=by
 have hlt:=h.lt;obtain⟨cur,t,h,hc⟩:=h;exact⟨cur,t,(hb.block g hlt).trans h,hc⟩
theorem RowN.cells {g n:Nat}{f:Nat→Nat × Int}{W:World}(h:RowN g n f W)(i:Nat)(hi:i<n):W.cell? ⟨g,i*2,none⟩=some (.int .i64 ((f i).1:Int))∧W.cell? ⟨g,i*2+1,none⟩=some (.int .i64 (f i).2)∧∀j,W.frozen? ⟨g,j,none⟩=false:=by
 obtain⟨cur,t,h,hc⟩:=h;exact⟨by rw[Lib.cell_of_heap h];exact(hc i hi).1,by rw[Lib.cell_of_heap h];exact(hc i hi).2,fun j=>Lib.frozen_of_heap h j⟩
theorem RowN.set {g n:Nat}{f f':Nat→Nat × Int}{W:World}{u0 u1:Int}(h:RowN g n f W)(q:Nat)(hq:q<n)(hf : ∀i,i<n→i≠q→f' i=f i)(e0:u0=((f' q).1:Int))(e1:u1=(f' q).2):RowN g n f' ((W.setCell ⟨g,q*2,none⟩ (.int .i64 u0)).setCell ⟨g,q*2+1,none⟩ (.int .i64 u1)):=by
 subst e0 e1;obtain⟨cur,t,h,hc⟩:=h;have hs0:=(Array.getElem?_eq_some_iff.1 (hc q hq).1).1;have hs1:=(Array.getElem?_eq_some_iff.1 (hc q hq).2).1;refine⟨_,t,heap_set (heap_set h),fun i hi=> ?_⟩;by_cases e:i=q
 · subst e
   refine⟨?_,?_⟩
   · rw[Array.getElem?_setIfInBounds_ne (by omega),Array.getElem?_setIfInBounds_self_of_lt hs0]
   · rw[Array.getElem?_setIfInBounds_self_of_lt (by rw[Array.size_setIfInBounds];exact hs1)]
 · rw[hf i hi e]
   refine⟨?_,?_⟩
   · rw[Array.getElem?_setIfInBounds_ne (by omega),Array.getElem?_setIfInBounds_ne (by omega)]
     exact(hc i hi).1
   · rw[Array.getElem?_setIfInBounds_ne (by omega),Array.getElem?_setIfInBounds_ne (by omega)]
     exact(hc i hi).2
theorem RowN.same {g n:Nat}{f f':Nat→Nat × Int}{W:World}(h:RowN g n f W)(hf : ∀i,i<n→f' i=f i):RowN g n f' W:=by
 obtain⟨cur,t,h,hc⟩:=h;exact⟨cur,t,h,fun i hi=>by rw[hf i hi];exact hc i hi⟩
end Go.Proofs.YtmiekcdkamgknaaGreatDoor
namespace Go.Proofs.YtmiekcdkamgknaaGreatDoor
open Go.RowKit Go.Shelf
attribute [local go_sem ↓] Go.wp_at_zero Go.wp_at_succ
theorem PosD.k {k:KernL}(h:PosD k.t.ds):PosK k:=h
theorem do_c (X:Nat→Prop)(S:Nat→Addr){n:Nat}(k:KernL)(p:Int)(c:CallL)(ao ad af ap:Option Addr)(co cd cf cp:Nat)(w:World)(hX:Old X w)(hD:DiskX k.l (.slice ao k.l.length co) X w)(hT:TabX k.t (.slice ad k.t.ds.length cd) (.slice af k.t.fs.length cf) X w)(hP:PsX k.ps (.slice ap k.ps.length cp) X w)(hE:EnvX S X w)(hk:KSt n k)(hn:n≤120)(hc:CallOk c) :
 Calls Tryz.prog 7 #[kernV (.slice ao k.l.length co) k.most k.room (.slice ad k.t.ds.length cd) (.slice af k.t.fs.length cf) (.slice ap k.ps.length cp), .int .i64 p,callV c] w fun e w'=>DoIs X (doK k p c) e w w' :=
 pDo_c X S k p c _ _ _ _ _ _ _ _ w hX hD hT hP hE (hk.ok hn) hk.pos hc.p1 hc.p2 hc.dt hc.f0.1 hc.f0.2 hc.g0.1 hc.g0.2 hc.kd
end Go.Proofs.YtmiekcdkamgknaaGreatDoor
namespace Go.Proofs.YtmiekcdkamgknaaGreatDoor
open Go.RowKit
theorem inM:InI (-1):=⟨by decide,by decide⟩
def cStat (path:Nm)(flags:Int):CallL:=⟨12, -1,0,0,0,flags,path,[],[]⟩
def cChdir (path:Nm):CallL:=⟨14, -1,0,0,0,0,path,[],[]⟩
theorem okStat {path:Nm}(flags:Int)(h:path.length≤10000):CallOk (cStat path flags):=⟨h,Nat.zero_le _,Nat.zero_le _,inM,in0,by unfold Kd;exact .inl rfl⟩
theorem okChdir {path:Nm}(h:path.length≤10000):CallOk (cChdir path):=⟨h,Nat.zero_le _,Nat.zero_le _,inM,in0,by unfold Kd;exact .inr (rfl)⟩
theorem KSt.of {c:Nat}{k:KernL}(h:KSt c k)(hc:c≤120)(p:Int){x:CallL}(hx:CallOk x){R:DoL}(e:R=doK k p x):KSt (c+1) R.1:=by rw[e];exact h.do hc p hx
end Go.Proofs.YtmiekcdkamgknaaGreatDoor
