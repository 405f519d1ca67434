import Derived.Test.YtbjkkijickbppaaGreatDoorR46
import Derived.Deep.RegionHeld3
import Derived.Deep.DeepCutAuto
import Derived.Test.YtbjkkijickbppaaGreatDoorR33
import Derived.ChangeKeysEq
import Derived.OwnWalk
import Derived.StillTailTactics
import Derived.Test.YtbjkkijickbppaaGreatDoorR23
import Derived.Test.YtbjkkijickbppaaGreatDoorR44
import Derived.Test.YtbjkkijickbppaaGreatDoorR32
import Derived.Test.YtbjkkijickbppaaGreatDoorR45
import Derived.Test.YtbjkkijickbppaaGreatDoorR37
import Derived.Test.YtbjkkijickbppaaGreatDoorR27
import Derived.Test.YtbjkkijickbppaaGreatDoorR39
import Derived.Test.YtbjkkijickbppaaGreatDoorR31
import Derived.Lib.QuietBelow
import Derived.Test.YtbjkkijickbppaaGreatDoorR34
import Derived.Laws.EntriesVeiled
import Derived.Test.YtbjkkijickbppaaGreatDoorR12
import Derived.Test.YtbjkkijickbppaaGreatDoorR36
namespace Go.Proofs.YtbjkkijickbppaaGreatDoor
open Go.RowKit Go.Shelf
attribute [local go_sem ↓] Go.wp_at_zero Go.wp_at_succ
set_option maxRecDepth 100000 in
set_option maxHeartbeats 4000000 in
theorem pDo_c (X:Nat→Prop)(S:Nat→Addr)(k:KernL)(p:Int)(c:CallL)(ao ad af ap:Option Addr)(co cd cf cp:Nat)(w:World)(hX:Old X w)(hD:DiskX k.l (.slice ao k.l.length co) X w)(hT:TabX k.t (.slice ad k.t.ds.length cd) (.slice af k.t.fs.length cf) X w)(hP:PsX k.ps (.slice ap k.ps.length cp) X w)(hE:EnvX S X w)(hk:KrnOk k)(hps:PosK k)(h1:c.path.length≤10000)(h2:c.path2.length≤10000)(h3:c.data.length≤1000)(f0 : -9223372036854775808≤c.fd)(f1:c.fd≤9223372036854775807)(g0 : -9223372036854775808≤c.fd2)(g1:c.fd2≤9223372036854775807)(hkd:Kd c.kind) :
 Calls Tryz.prog 6 #[.agg #[.slice ao k.l.length co, .int .i64 k.most, .int .i64 k.room, .slice ad k.t.ds.length cd, .slice af k.t.fs.length cf, .slice ap k.ps.length cp], .int .i64 p,callV c] w fun e w'=>DoIs X (doK k p c) e w w':=by
 have HDO:=Lib.hid (fun(Y:Nat→Prop) (bw:Nat) (W:World) (hX:Old Y W) (hq:Y bw) (hW:W.heap[bw]? = some (.cells #[.slice ao k.l.length co, .int .i64 k.most, .int .i64 k.room, .slice ad k.t.ds.length cd, .slice af k.t.fs.length cf, .slice ap k.ps.length cp, .int .i64 p, .int .i64 c.kind, .int .i64 c.fd, .int .i64 c.fd2, .int .i64 c.n, .int .i64 c.mode, .int .i64 c.flags, .string (bs c.path), .string (bs c.path2), .string (bs c.data)] 59 (0,0))) hD hT hP hE=>pdo_any Y S k p c ao ad af ap co cd cf cp bw W hX hq hW hD hT hP hE hk hps h1 h2 h3 f0 f1 g0 g1 hkd);have HWH:=Lib.hid (whole_do k p c);obtain⟨R,hR⟩ : ∃R,R=doK k p c:=⟨_,rfl⟩;rw[←hR]at HDO HWH ⊢;clear hR hk hps h1 h2 h3 f0 f1 g0 g1 hkd;have S0:=Lib.hid (Sf.start (G:= [DiskX k.l (.slice ao k.l.length co),TabX k.t (.slice ad k.t.ds.length cd) (.slice af k.t.fs.length cf),PsX k.ps (.slice ap k.ps.length cp),EnvX S]) hX (th4 (DiskX.firm _ _) hD (TabX.firm _ _ _) hT (PsX.firm _ _) hP (EnvX.firm _) hE))
 have HRET:Hid (∀(W:World) (cs cs2:Array Value) (fr fr2),W.heap[w.heap.size+2]? = some (.cells cs 31 fr)→cs.size=6→W.heap[w.heap.size+3]? = some (.cells cs2 39 fr2)→cs2.size=10→∀tmps:Array Value,tmps.getD 6 undef = .pointer (some ⟨w.heap.size+2,0,none⟩)→tmps.getD 7 undef = .pointer (some ⟨w.heap.size+3,0,none⟩)→(results Tryz.f6 tmps).run Tryz.prog W = .ok (.tuple #[.agg cs, .agg cs2]) W):=Lib.hid fun W cs cs2 fr fr2 h hs h2 hs2 tmps ht ht2 =>
 results_cc (p:=6) (q:=7) (ty:=31) (ty2:=39) rfl tmps W (w.heap.size+2) (w.heap.size+3) _ _ cs cs2 fr fr2 _ _ ht h ht2 h2 Tryz.underlying31 rfl (by rw[hs];kernel_rfl) Tryz.underlying39 rfl (by rw[hs2];kernel_rfl)
 clear hX hD hT hP hE;go_enter Tryz.func6,Tryz.ntmps6;go_upto_region 1 with(fail);refine code_fresh4 ?_;intro W1 hb hA0 hA1 hA2 hA3 hs;have S1:=Lib.hid (S0.out.new4 hb hA0 hA1 hA2 hA3);clear hb hA0 hA1 hA2 hA3 hs;have h_k:=(S1.out.at 0 rfl);have h_c:=(S1.out.at 1 rfl);go_upto_region 2 with((first | (refine wpList_load_row rfl 31 _ rfl _ rfl 31 _ (0,0) _ h_k Tryz.underlying31 rfl (by kernel_rfl) ?_) | (refine wpList_load_row rfl 43 _ rfl _ rfl 43 _ (0,0) _ h_c Tryz.underlying43 rfl (by kernel_rfl) ?_)));refine code_fresh1 ?_;intro W2 hb hA0 hs;clear h_k h_c;have S2:=Lib.hid (S1.out.new1 hb hA0);clear hb hA0 hs;go_wp2_with fail;obtain⟨bw,hbw⟩ : ∃b,b=W1.heap.size:=⟨_,rfl⟩;rw[←hbw]at S2 ⊢;clear hbw;refine(HDO.out _ bw W2 S2.out.oldX (S2.out.inX 4 rfl) (S2.out.at 4 rfl) (S2.out.g 0 rfl) (S2.out.g 1 rfl) (S2.out.g 2 rfl) (S2.out.g 3 rfl)).mono ?_;rintro e W3 ⟨r,ar,cr,ev,cs,rfl,hv,hb,hl,hw,hok⟩;by_cases h0:R.2.e=0
 · obtain⟨rfl,ao2,co2,ad2,cd2,af2,cf2,ap2,cp2,rfl,d1,d2,d3⟩:=hok h0
   have S3:=Lib.hid (((((S2.out.callw 4 rfl hb hw).more (LsX.firm _ _) hl).more (DiskX.firm _ _) d1).more (TabX.firm _ _ _) d2).more (PsX.firm _ _) d3);obtain rfl:=(show ErrK 0 ev by rw[←h0];exact hv).ok;clear hv hb hl hw hok d1 d2 d3 h0;go_upto_region 3 with(first | (refine wpList_fresh1 ?_;intro W4 hb hn hs;have S4:=Lib.hid (S3.out.new1 hb hn);have h_y:=S4.out.at 5 rfl;clear hb hn hs) | (refine wpList_store_row rfl 39 _ _ rfl _ rfl rfl h_y rfl (by kernel_rfl) rfl ?_;intro W5 hb hg hs hn;have S5:=Lib.hid (S4.out.set 5 rfl hb hg hs hn);clear hb hg hs hn));clear h_y;go_upto_region 5 with(fail);have h_wk:=(S5.out.at 4 rfl);have h_y:=(S5.out.at 5 rfl);refine wp_region_held_drew (S:=fun W=>W.heap[bw]? = some (.cells #[.slice ao2 R.1.l.length co2, .int .i64 R.1.most, .int .i64 R.1.room, .slice ad2 R.1.t.ds.length cd2, .slice af2 R.1.t.fs.length cf2, .slice ap2 R.1.ps.length cp2, .int .i64 p, .int .i64 c.kind, .int .i64 c.fd, .int .i64 c.fd2, .int .i64 c.n, .int .i64 c.mode, .int .i64 c.flags, .string (bs c.path), .string (bs c.path2), .string (bs c.data)] 59 (0,0))∧W.heap[W3.heap.size]? = some (.cells #[.int .i64 R.2.e, .int .i64 R.2.n, .string (bs R.2.s), .slice ar R.2.ls.length cr, .int .i64 R.2.i.ino, .int .i64 R.2.i.kind, .int .i64 R.2.i.mode, .int .i64 R.2.i.owner, .int .i64 R.2.i.links, .int .i64 R.2.i.size] 39 (0,0))∧W.rangeAt bw 0 [.slice ao2 R.1.l.length co2, .int .i64 R.1.most, .int .i64 R.1.room, .slice ad2 R.1.t.ds.length cd2, .slice af2 R.1.t.fs.length cf2, .slice ap2 R.1.ps.length cp2]∧True) (by kernel_rfl) ⟨(S5.out.at 4 rfl),(S5.out.at 5 rfl),w_kern (S5.out.at 4 rfl),trivial⟩ (fun hHeld=> ?_)
   clear h_wk h_y;have S6:=Lib.hid (S5.out.call (Below.refl W5.heap.size W5).drew);generalize W5.drew=W6 at *;refine wpAnyH_take (i:=0) (v:= ?v152) rfl (by kernel_rfl) (by kernel_rfl) (by kernel_rfl) (fun _ _ _ h=>h) (Or.inl ⟨by rfl,?hy152⟩) hHeld ?rest152
   case hy152=>(intro w hSw;(try dsimp only at hSw);(try go_split_ands);go_simp;first | done | with_reducible rfl)
   (try simp only[List.getElem_toArray]);(try simp only[List.getElem_cons_succ]);(try simp only[List.getElem_cons_zero]);(try simp only[Act.put]);(try simp only[List.setIfInBounds_toArray]);(try simp only[List.set_cons_succ]);(try simp only[List.set_cons_zero]);refine wpAnyH_take (i:=1) (v:= ?v153) rfl (by kernel_rfl) (by kernel_rfl) (by kernel_rfl) (fun _ _ _ h=>h) (Or.inl ⟨by rfl,?hy153⟩) hHeld ?rest153
   case hy153=>(intro w hSw;(try dsimp only at hSw);(try go_split_ands);go_simp;first | done | with_reducible rfl)
   (try simp only[List.getElem_toArray]);(try simp only[List.getElem_cons_succ]);(try simp only[List.getElem_cons_zero]);(try simp only[Act.put]);(try simp only[List.setIfInBounds_toArray]);(try simp only[List.set_cons_succ]);(try simp only[List.set_cons_zero]);refine wpAnyH_take (i:=2) (v:= ?v154) rfl (by kernel_rfl) (by kernel_rfl) (by kernel_rfl) (fun _ _ _ h=>h) (Or.inl ⟨by rfl,?hy154⟩) hHeld ?rest154
   case hy154=>(intro w hSw;(try dsimp only at hSw);(try go_split_ands);go_simp;first | done | with_reducible rfl)
   (try simp only[List.getElem_toArray]);(try simp only[List.getElem_cons_succ]);(try simp only[List.getElem_cons_zero]);(try simp only[Act.put]);(try simp only[List.setIfInBounds_toArray]);(try simp only[List.set_cons_succ]);(try simp only[List.set_cons_zero]);refine wpAnyH_take (i:=3) rfl (by kernel_rfl) (by kernel_rfl) (by kernel_rfl) (fun _ _ _ h=>h) (yieldsIf_load_mid (by rfl) 31 _ rfl _ 0 rfl _ _ (fun _ h=>h.2.2.1) Tryz.underlying31 rfl (by kernel_rfl)) hHeld ?_;(try simp only[List.getElem_toArray]);(try simp only[List.getElem_cons_succ]);(try simp only[List.getElem_cons_zero]);(try simp only[Act.put]);(try simp only[List.setIfInBounds_toArray]);(try simp only[List.set_cons_succ]);(try simp only[List.set_cons_zero]);refine wpAnyH_take (i:=4) rfl (by kernel_rfl) (by kernel_rfl) (by kernel_rfl) (fun _ _ _ h=>h) (yieldsIf_load_row (by rfl) 39 _ rfl _ rfl 39 _ (0,0) _ (fun _ h=>h.2.1) Tryz.underlying39 rfl (by kernel_rfl)) hHeld ?_;(try simp only[List.getElem_toArray]);(try simp only[List.getElem_cons_succ]);(try simp only[List.getElem_cons_zero]);(try simp only[Act.put]);(try simp only[List.setIfInBounds_toArray]);(try simp only[List.set_cons_succ]);(try simp only[List.set_cons_zero]);refine wpAnyH_ready (rs:= [5]) (by kernel_rfl) (by simp) ?_;refine AllReadyH.cons rfl (fun K hK=> ?_) AllReadyH.nil;rw[if_pos (by rfl)];refine wp_store_row 31 _ _ rfl _ rfl rfl (S6.out.at 2 rfl) rfl (by kernel_rfl) rfl ?_;intro W7 hb hg hs hn
   have S7:=Lib.hid (S6.out.set 2 rfl hb hg hs hn);clear hb hg hs hn hHeld;refine hK.out _ _ ⟨(S7.out.at 4 rfl),(S7.out.at 5 rfl),w_kern (S7.out.at 4 rfl),trivial⟩ (fun hHeld=> ?_);clear hK K;(try simp only[List.getElem_toArray]);(try simp only[List.getElem_cons_succ]);(try simp only[List.getElem_cons_zero]);(try simp only[Act.put]);(try simp only[List.setIfInBounds_toArray]);(try simp only[List.set_cons_succ]);(try simp only[List.set_cons_zero]);refine wpAnyH_ready (rs:= [6]) (by kernel_rfl) (by simp) ?_;refine AllReadyH.cons rfl (fun K hK=> ?_) AllReadyH.nil;rw[if_pos (by rfl)];refine wp_store_row 39 _ _ rfl _ rfl rfl (S7.out.at 3 rfl) rfl (by kernel_rfl) rfl ?_;intro W8 hb hg hs hn;have S8:=Lib.hid (S7.out.set 3 rfl hb hg hs hn);clear hb hg hs hn hHeld;refine hK.out _ _ ⟨(S8.out.at 4 rfl),(S8.out.at 5 rfl),w_kern (S8.out.at 4 rfl),trivial⟩ (fun hHeld=> ?_);clear hK K;(try simp only[List.getElem_toArray]);(try simp only[List.getElem_cons_succ]);(try simp only[List.getElem_cons_zero]);(try simp only[Act.put]);(try simp only[List.setIfInBounds_toArray]);(try simp only[List.set_cons_succ]);(try simp only[List.set_cons_zero]);refine wpAnyH_done (by kernel_rfl) ?_ _;go_wp2_with fail;refine bodyPost_ret (HRET.out _ _ _ _ _ (S8.out.at 2 rfl) rfl (S8.out.at 3 rfl) rfl _ rfl rfl) rfl ?_;exact⟨_,_,_,_,_,_,_,_,_,_,rfl,S8.out.gX 5 rfl,S8.out.gX 6 rfl,S8.out.gX 7 rfl,S8.out.gX 4 rfl,S8.out.bel⟩
 · obtain⟨n,hn⟩ : ∃n,n=R.2.e:=⟨_,rfl⟩
   have HR:Hid (R=(k,errR n)):=Lib.hid (by have h:=HWH.out h0;rw[hn];exact Prod.ext h.1 h.2);rw[←hn]at hv h0;have HV:=Lib.hid ((hv.resolve_left fun h=>h0 h.1).2);obtain⟨et,ex,rfl⟩:=hv.no h0;have S3:=Lib.hid ((S2.out.callw 4 rfl hb hw).more (LsX.firm _ _) hl);clear hv hb hl hw hok h0 hn;go_upto_region 3 with(first | (refine wpList_fresh1 ?_;intro W4 hb hn hs;have S4:=Lib.hid (S3.out.new1 hb hn);have h_y:=S4.out.at 5 rfl;clear hb hn hs) | (refine wpList_store_row rfl 39 _ _ rfl _ rfl rfl h_y rfl (by kernel_rfl) rfl ?_;intro W5 hb hg hs hn;have S5:=Lib.hid (S4.out.set 5 rfl hb hg hs hn);clear hb hg hs hn));clear h_y;go_upto_region 4 with(fail);have h_k:=(S5.out.at 0 rfl);refine wp_region_held_drew (S:=fun W=>W.heap[w.heap.size]? = some (.cells #[.slice ao k.l.length co, .int .i64 k.most, .int .i64 k.room, .slice ad k.t.ds.length cd, .slice af k.t.fs.length cf, .slice ap k.ps.length cp] 31 (0,0))∧True) (by kernel_rfl) ⟨(S5.out.at 0 rfl),trivial⟩ (fun hHeld=> ?_);clear h_k;have S6:=Lib.hid (S5.out.call (Below.refl W5.heap.size W5).drew);generalize W5.drew=W6 at *;refine wpAnyH_take (i:=0) rfl (by kernel_rfl) (by kernel_rfl) (by kernel_rfl) (fun _ _ _ h=>h) (yieldsIf_load_row (by rfl) 31 _ rfl _ rfl 31 _ (0,0) _ (fun _ h=>h.1) Tryz.underlying31 rfl (by kernel_rfl)) hHeld ?_;(try simp only[List.getElem_toArray]);(try simp only[List.getElem_cons_succ]);(try simp only[List.getElem_cons_zero]);(try simp only[Act.put]);(try simp only[List.setIfInBounds_toArray]);(try simp only[List.set_cons_succ]);(try simp only[List.set_cons_zero])
   refine wpAnyH_take (i:=1) (v:= ?v155) rfl (by kernel_rfl) (by kernel_rfl) (by kernel_rfl) (fun _ _ _ h=>h) (Or.inl ⟨by rfl,?hy155⟩) hHeld ?rest155
   case hy155=>(intro w hSw;(try dsimp only at hSw);(try go_split_ands);go_simp;first | done | with_reducible rfl)
   (try simp only[List.getElem_toArray]);(try simp only[List.getElem_cons_succ]);(try simp only[List.getElem_cons_zero]);(try simp only[Act.put]);(try simp only[List.setIfInBounds_toArray]);(try simp only[List.set_cons_succ]);(try simp only[List.set_cons_zero]);refine wpAnyH_ready (rs:= [2]) (by kernel_rfl) (by simp) ?_;refine AllReadyH.cons rfl (fun K hK=> ?_) AllReadyH.nil;go_simp;refine(knumber_any (.iface et ex) n W6 HV.out (S6.out.g 3 rfl).1.sent.err).mono ?_;rintro e W7 ⟨rfl,hb⟩;have S7:=Lib.hid (S6.out.call hb);clear hb hHeld;go_wp2_with fail;refine hK.out _ _ ⟨(S7.out.at 0 rfl),trivial⟩ (fun hHeld=> ?_);clear hK K;(try simp only[List.getElem_toArray]);(try simp only[List.getElem_cons_succ]);(try simp only[List.getElem_cons_zero]);(try simp only[Act.put]);(try simp only[List.setIfInBounds_toArray]);(try simp only[List.set_cons_succ]);(try simp only[List.set_cons_zero]);refine wpAnyH_take (i:=3) (v:= ?v156) rfl (by kernel_rfl) (by kernel_rfl) (by kernel_rfl) (fun _ _ _ h=>h) (Or.inl ⟨by rfl,?hy156⟩) hHeld ?rest156
   case hy156=>(intro w hSw;(try dsimp only at hSw);(try go_split_ands);go_simp;first | done | with_reducible rfl)
   (try simp only[List.getElem_toArray]);(try simp only[List.getElem_cons_succ]);(try simp only[List.getElem_cons_zero]);(try simp only[Act.put]);(try simp only[List.setIfInBounds_toArray]);(try simp only[List.set_cons_succ]);(try simp only[List.set_cons_zero]);refine wpAnyH_ready (rs:= [4]) (by kernel_rfl) (by simp) ?_;refine AllReadyH.cons rfl (fun K hK=> ?_) AllReadyH.nil;rw[if_pos (by rfl)];refine wp_store_row 31 _ _ rfl _ rfl rfl (S7.out.at 2 rfl) rfl (by kernel_rfl) rfl ?_;intro W8 hb hg hs hn;have S8:=Lib.hid (S7.out.set 2 rfl hb hg hs hn);clear hb hg hs hn hHeld;refine hK.out _ _ ⟨(S8.out.at 0 rfl),trivial⟩ (fun hHeld=> ?_);clear hK K;(try simp only[List.getElem_toArray]);(try simp only[List.getElem_cons_succ]);(try simp only[List.getElem_cons_zero]);(try simp only[Act.put]);(try simp only[List.setIfInBounds_toArray]);(try simp only[List.set_cons_succ]);(try simp only[List.set_cons_zero]);refine wpAnyH_ready (rs:= [5]) (by kernel_rfl) (by simp) ?_;refine AllReadyH.cons rfl (fun K hK=> ?_) AllReadyH.nil;rw[if_pos (by rfl)];refine wp_store_row 39 _ _ rfl _ rfl rfl (S8.out.at 3 rfl) rfl (by kernel_rfl) rfl ?_;intro W9 hb hg hs hn;have S9:=Lib.hid (S8.out.set 3 rfl hb hg hs hn);clear hb hg hs hn hHeld;refine hK.out _ _ ⟨(S9.out.at 0 rfl),trivial⟩ (fun hHeld=> ?_);clear hK K;(try simp only[List.getElem_toArray]);(try simp only[List.getElem_cons_succ]);(try simp only[List.getElem_cons_zero]);(try simp only[Act.put]);(try simp only[List.setIfInBounds_toArray]);(try simp only[List.set_cons_succ]);(try simp only[List.set_cons_zero])
   refine wpAnyH_done (by kernel_rfl) ?_ _;go_wp2_with fail;refine bodyPost_ret (HRET.out _ _ _ _ _ (S9.out.at 2 rfl) rfl (S9.out.at 3 rfl) rfl _ rfl rfl) rfl ?_;rw[HR.out];exact⟨_,_,_,_,_,_,_,_,_,_,rfl,S9.out.gX 0 rfl,S9.out.gX 1 rfl,S9.out.gX 2 rfl,LsX.none _ _,S9.out.bel⟩
end Go.Proofs.YtbjkkijickbppaaGreatDoor
namespace Go.Proofs.YtbjkkijickbppaaGreatDoor
open Go.RowKit Go.Shelf
attribute [local go_sem ↓] Go.wp_at_zero Go.wp_at_succ
def RowN (g n:Nat)(f:Nat→Nat × Int)(W:World):Prop:=∃cur t,W.heap[g]? = some (.cells cur t (0,0))∧∀i,i<n→cur[i*2]? = some (.int .i64 ((f i).1:Int))∧cur[i*2+1]? = some (.int .i64 (f i).2)
theorem RowN.lt {g n:Nat}{f:Nat→Nat × Int}{W:World}(h:RowN g n f W):g<W.heap.size:=by
 obtain⟨cur,t,h,_⟩:=h;exact(Array.getElem?_eq_some_iff.1 h).1
theorem RowN.keep {g n:Nat}{f:Nat→Nat × Int}{W W':World}(h:RowN g n f W)(hb:Below W.heap.size W W'):RowN g n f W':=by
 have hlt:=h.lt;obtain⟨cur,t,h,hc⟩:=h;exact⟨cur,t,(hb.block g hlt).trans h,hc⟩
theorem RowN.cells {g n:Nat}{f:Nat→Nat × Int}{W:World}(h:RowN g n f W)(i:Nat)(hi:i<n):W.cell? ⟨g,i*2,none⟩=some (.int .i64 ((f i).1:Int))∧W.cell? ⟨g,i*2+1,none⟩=some (.int .i64 (f i).2)∧∀j,W.frozen? ⟨g,j,none⟩=false:=by
 obtain⟨cur,t,h,hc⟩:=h;exact⟨by rw[Lib.cell_of_heap h];exact(hc i hi).1,by rw[Lib.cell_of_heap h];exact(hc i hi).2,fun j=>Lib.frozen_of_heap h j⟩
theorem RowN.set {g n:Nat}{f f':Nat→Nat × Int}{W:World}{u0 u1:Int}(h:RowN g n f W)(q:Nat)(hq:q<n)(hf : ∀i,i<n→i≠q→f' i=f i)(e0:u0=((f' q).1:Int))(e1:u1=(f' q).2):RowN g n f' ((W.setCell ⟨g,q*2,none⟩ (.int .i64 u0)).setCell ⟨g,q*2+1,none⟩ (.int .i64 u1)):=by
 subst e0 e1;obtain⟨cur,t,h,hc⟩:=h;have hs0:=(Array.getElem?_eq_some_iff.1 (hc q hq).1).1;have hs1:=(Array.getElem?_eq_some_iff.1 (hc q hq).2).1;refine⟨_,t,heap_set (heap_set h),fun i hi=> ?_⟩;by_cases e:i=q
 · subst e
   refine⟨?_,?_⟩
   · rw[Array.getElem?_setIfInBounds_ne (by omega),Array.getElem?_setIfInBounds_self_of_lt hs0]
   · rw[Array.getElem?_setIfInBounds_self_of_lt (by rw[Array.size_setIfInBounds];exact hs1)]
 · rw[hf i hi e]
   refine⟨?_,?_⟩
   · rw[Array.getElem?_setIfInBounds_ne (by omega),Array.getElem?_setIfInBounds_ne (by omega)]
     exact(hc i hi).1
   · rw[Array.getElem?_setIfInBounds_ne (by omega),Array.getElem?_setIfInBounds_ne (by omega)]
     exact(hc i hi).2
theorem RowN.same {g n:Nat}{f f':Nat→Nat × Int}{W:World}(h:RowN g n f W)(hf : ∀i,i<n→f' i=f i):RowN g n f' W:=by
 obtain⟨cur,t,h,hc⟩:=h;exact⟨cur,t,h,fun i hi=>by rw[hf i hi];exact hc i hi⟩
end Go.Proofs.YtbjkkijickbppaaGreatDoor
namespace Go.Proofs.YtbjkkijickbppaaGreatDoor
open Go.RowKit Go.Shelf
attribute [local go_sem ↓] Go.wp_at_zero Go.wp_at_succ
theorem PosD.k {k:KernL}(h:PosD k.t.ds):PosK k:=h
theorem do_c (X:Nat→Prop)(S:Nat→Addr){n:Nat}(k:KernL)(p:Int)(c:CallL)(ao ad af ap:Option Addr)(co cd cf cp:Nat)(w:World)(hX:Old X w)(hD:DiskX k.l (.slice ao k.l.length co) X w)(hT:TabX k.t (.slice ad k.t.ds.length cd) (.slice af k.t.fs.length cf) X w)(hP:PsX k.ps (.slice ap k.ps.length cp) X w)(hE:EnvX S X w)(hk:KSt n k)(hn:n≤120)(hc:CallOk c) :
 Calls Tryz.prog 6 #[kernV (.slice ao k.l.length co) k.most k.room (.slice ad k.t.ds.length cd) (.slice af k.t.fs.length cf) (.slice ap k.ps.length cp), .int .i64 p,callV c] w fun e w'=>DoIs X (doK k p c) e w w' :=
 pDo_c X S k p c _ _ _ _ _ _ _ _ w hX hD hT hP hE (hk.ok hn) hk.pos hc.p1 hc.p2 hc.dt hc.f0.1 hc.f0.2 hc.g0.1 hc.g0.2 hc.kd
end Go.Proofs.YtbjkkijickbppaaGreatDoor
namespace Go.Proofs.YtbjkkijickbppaaGreatDoor
open Go.RowKit
theorem row_len {t:TabL}(h:RightT t)(p:Int):(rowT t p).length≤8:=by
 unfold rowT;rcases Nat.lt_or_ge p.toNat t.fs.length with h1 | h1
 · rw[getD_at h1];exact Nat.le_of_eq (h.1 _ (List.getElem_mem h1)).1
 · rw[List.getD_eq_getElem?_getD,List.getElem?_eq_none h1];exact Nat.zero_le _
theorem in_small {n:Nat}(h:n≤10000):InI (n:Int):=⟨by omega,by omega⟩
theorem num_open {t:TabL}(h:RightT t)(p:Int)(x:DescL):InI (openT t p x).2.1:=by
 have:=row_len h p;unfold openT;split
 · exact in0
 · split
   · exact in0
   · exact in_small (n:=firstR (rowT t p)) (by omega)
theorem num_dup {t:TabL}(h:RightT t)(p fd:Int):InI (dupT t p fd).2.1:=by
 have:=row_len h p;unfold dupT;split
 · exact in0
 · split
   · exact in0
   · exact in_small (n:=firstR (rowT t p)) (by omega)
theorem num_at {k:KernL}(h:RigK k)(p flags:Int)(l:List NodeL)(i e:Int):InI (openAt k p flags l i e).2.n:=by
 unfold openAt;split
 · exact in0
 · exact num_open h.tab _ _
theorem num_do {k:KernL}(h:RigK k)(p:Int){c:CallL}(hd:c.data.length≤1000):InI (doK k p c).2.n:=by
 unfold doK;split
 · exact in0
 · split
   · unfold openK
     split
     · exact in0
     · split
       · exact in0
       · split
         · exact in0
         · unfold openFrom
           split
           · exact in0
           · split
             · unfold openNew
               split
               · exact in0
               · split
                 · exact in0
                 · exact num_at h _ _ _ _ _
             · exact num_at h _ _ _ _ _
   · split
     · unfold shutK
       split<;>exact in0
     · split
       · unfold descK
         split
         · exact in0
         · split
           · unfold readK
             split<;>exact in0
           · split
             · unfold writeK
               split
               · exact in0
               · exact in_small (n:=c.data.length) (by omega)
             · split
               · unfold listK;split<;>exact in0
               · split
                 · unfold flockK
                   split<;>exact in0
                 · unfold dupK
                   split
                   · exact in0
                   · exact num_dup h.tab _ _
       · split
         · unfold renamedK
           split
           · exact in0
           · split<;>exact in0
         · split
           · unfold lookedK
             split
             · exact in0
             · split
               · exact in0
               · unfold lookAt
                 split
                 · exact in0
                 · split
                   · exact in0
                   · split
                     · exact in0
                     · split
                       · exact in0
                       · split<;>exact in0
           · unfold changedK
             split<;>exact in0
end Go.Proofs.YtbjkkijickbppaaGreatDoor
namespace Go.Proofs.YtbjkkijickbppaaGreatDoor
open Go.RowKit
def cRead (fd n:Int):CallL:=⟨3,fd,0,n,0,0,[],[],[]⟩
def cDup (fd:Int):CallL:=⟨17,fd,0,0,0,0,[],[],[]⟩
theorem okRead {fd:Int}(n:Int)(h:InI fd):CallOk (cRead fd n):=⟨Nat.zero_le _,Nat.zero_le _,Nat.zero_le _,h,in0,by unfold Kd;exact .inl rfl⟩
theorem okDup {fd:Int}(h:InI fd):CallOk (cDup fd):=⟨Nat.zero_le _,Nat.zero_le _,Nat.zero_le _,h,in0,by unfold Kd;exact .inr (rfl)⟩
theorem num_in {c:Nat}{k:KernL}(h:KSt c k)(p:Int){x:CallL}(hx:CallOk x){R:DoL}(e:R=doK k p x):InI R.2.n:=by rw[e];exact num_do h.rig p hx.dt
theorem KSt.of {c:Nat}{k:KernL}(h:KSt c k)(hc:c≤120)(p:Int){x:CallL}(hx:CallOk x){R:DoL}(e:R=doK k p x):KSt (c+1) R.1:=by rw[e];exact h.do hc p hx
theorem head_le (d:Nm)(n:Int):(headD d n).length≤d.length:=by unfold headD;split<;>first | exact Nat.le_refl _ | exact Nat.zero_le _ | (rw[List.length_take];omega)
theorem part_le (d:Nm)(i n:Int):(partD d i n).length≤d.length:=by
 unfold partD;refine Nat.le_trans (head_le _ _) ?_;unfold restD;split<;>first | exact Nat.le_refl _ | exact Nat.zero_le _ | (rw[List.length_drop];omega)
theorem read_short {c:Nat}{k:KernL}(h:KSt c k)(p:Int)(x:CallL)(hx:x.kind=3):(doK k p x).2.s.length≤1200:=by
 by_cases he:(doK k p x).2.e=0
 · obtain⟨-, -, -, -, -, -,he2⟩:=read_ok hx he
   rw[he2];refine Nat.le_trans (part_le _ _ _) ?_;rw[getL_nodeL];have sr:=small_right h.rig h.siz;rcases nodeL_cases k.l (foundT k.t p x.fd).ino with⟨j,_,hk,e⟩ | ⟨_,e⟩
   · rw[e,nd_in k.l j (nd_kind hk)]
     exact Nat.le_trans (sr.2 _ (List.getElem_mem _)).1 (by decide)
   · rw[e];exact Nat.zero_le _
 · rw[(whole_do k p x he).2];exact Nat.zero_le _
end Go.Proofs.YtbjkkijickbppaaGreatDoor
