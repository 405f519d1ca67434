import Derived.Test.YtbjkkijickbppaaGreatDoorR43
import Derived.Test.YtbjkkijickbppaaGreatDoorR12
import Derived.Test.YtbjkkijickbppaaGreatDoorR42
import Derived.Deep.RegionHeld3
import Derived.Deep.DeepCutAuto
import Derived.Test.YtbjkkijickbppaaGreatDoorR38
import Derived.Test.YtbjkkijickbppaaGreatDoorR31
import Derived.Test.YtbjkkijickbppaaGreatDoorR32
import Derived.Test.YtbjkkijickbppaaGreatDoorR35
import Derived.Test.YtbjkkijickbppaaGreatDoorR36
import Derived.Test.YtbjkkijickbppaaGreatDoorR41
import Derived.Test.YtbjkkijickbppaaGreatDoorR19
import Derived.Test.YtbjkkijickbppaaGreatDoorR30
namespace Go.Proofs.YtbjkkijickbppaaGreatDoor
open Go.RowKit Go.Shelf
attribute [local go_sem ↓] Go.wp_at_zero Go.wp_at_succ
theorem descE_hasT {k:KernL}{p fd:Int}{f:DescL→Bool}(h:descE k p fd f=0):hasT k.t p fd=true:=by
 unfold descE at h;split at h
 · rename_i h1;rw[Bool.and_eq_true]at h1;exact h1.1
 · cases h
def PosK (k:KernL):Prop:=∀d∈k.t.ds, -9223372036854775808≤d.pos∧d.pos≤9223372036854775807
theorem PosK.found {k:KernL}(h:PosK k)(hr:RightT k.t){p fd:Int}(hh:hasT k.t p fd=true) : -9223372036854775808≤(foundT k.t p fd).pos∧(foundT k.t p fd).pos≤9223372036854775807:=by
 obtain⟨i,hi,_,e,_⟩:=has_desc hr hh;rw[e];exact h _ (List.getElem_mem hi)
theorem posW_is {x:DescL}{n:Int}(h : -9223372036854775808≤x.pos+n∧x.pos+n≤9223372036854775807):posW x n=posD x n:=by
 unfold posW posD;rw[Go.IntWalk.wrap64_in _ (by omega)]
theorem dat_node {k:KernL}(h:KrnOk k)(i:Int):(nodeL k.l i).data.length≤10000:=by
 unfold nodeL;split
 · unfold atI
   rcases Nat.lt_or_ge i.toNat k.l.length with h1 | h1
   · rw[List.getD_eq_getElem?_getD,List.getElem?_eq_getElem h1];exact Nat.le_trans (h.dsk.sm.2 _ (List.getElem_mem _)).1 (by decide)
   · rw[List.getD_eq_getElem?_getD,List.getElem?_eq_none h1];exact Nat.zero_le _
 · exact Nat.zero_le _
theorem read_far {k:KernL}(hk:KrnOk k){i a n:Int}(ha : -9223372036854775808≤a∧a≤9223372036854775807)(h:(readL k.l i a n).2=0) : -9223372036854775808≤a+((readL k.l i a n).1.length:Int)∧a+((readL k.l i a n).1.length:Int)≤9223372036854775807:=by
 obtain⟨hf,ha0,hn0,e⟩:=read_zero h;have hd:=dat_node hk i;rw[←getL_nodeL]at hd;rw[e];obtain⟨A,rfl⟩:=Int.eq_ofNat_of_zero_le ha0;obtain⟨N,rfl⟩:=Int.eq_ofNat_of_zero_le hn0;have hl:=part_len (getL k.l i).data A N;show _≤(A:Int)+((partD (getL k.l i).data (A:Int) (N:Int)).length:Int)∧(A:Int)+((partD (getL k.l i).data (A:Int) (N:Int)).length:Int)≤_;rw[hl];omega
theorem write_far {k:KernL}{i a:Int}{s:Nm}(hl:s.length≤1000)(ha : -9223372036854775808≤a∧a≤9223372036854775807)(h:(writeL k.l k.room i a s).2=0) : -9223372036854775808≤a+(s.length:Int)∧a+(s.length:Int)≤9223372036854775807:=by
 unfold writeL at h;split at h
 · rename_i h1;exact absurd h h1
 · split at h
   · cases h
   · split at h
     · rename_i h3;subst h3;simp only[List.length_nil];omega
     · split at h
       · cases h
       · omega
theorem read_no {k:KernL}{i n:Int}{x:DescL}(h:(readL k.l x.ino x.pos n).2≠0):readK k i x n=(k,errR (readL k.l x.ino x.pos n).2):=if_pos h
theorem read_is {k:KernL}{i n:Int}{x:DescL}(h:(readL k.l x.ino x.pos n).2=0):readK k i x n=(withT k (setT k.t i (posD x (readL k.l x.ino x.pos n).1.length)),textR (readL k.l x.ino x.pos n).1):=by unfold readK;rw[if_neg (by rw[h];decide)]
set_option maxRecDepth 100000 in
set_option maxHeartbeats 4000000 in
theorem pread1_c (X:Nat→Prop)(S:Nat→Addr)(k:KernL)(a:Nat)(c:CallL)(ao ad af ap:Option Addr)(co cd cf cp:Nat)(bw:Nat)(w:World)  (hX:Old X w)(hq:X bw)(hW:w.heap[bw]? = some (.cells #[.slice ao k.l.length co, .int .i64 k.most, .int .i64 k.room, .slice ad k.t.ds.length cd, .slice af k.t.fs.length cf, .slice ap k.ps.length cp, .int .i64 (a:Int), .int .i64 c.kind, .int .i64 c.fd, .int .i64 c.fd2, .int .i64 c.n, .int .i64 c.mode, .int .i64 c.flags, .string (bs c.path), .string (bs c.path2), .string (bs c.data)] 59 (0,0)))(hD:DiskX k.l (.slice ao k.l.length co) X w)(hT:TabX k.t (.slice ad k.t.ds.length cd) (.slice af k.t.fs.length cf) X w)(hP:PsX k.ps (.slice ap k.ps.length cp) X w)(hE:EnvX S X w)(ho:WkOk k a c)(hp:PosK k) :
 Calls Tryz.prog 56 #[.pointer (some ⟨bw,0,none⟩)] w fun e w'=>WorkIs X bw a c (useK k (a:Int) c.fd (fun x:DescL=>x.rd) (fun i x=>readK k i x c.n)) e w w':=by
 have S0:=Lib.hid (Sw.start (G:= [DiskX k.l (.slice ao k.l.length co),TabX k.t (.slice ad k.t.ds.length cd) (.slice af k.t.fs.length cf),PsX k.ps (.slice ap k.ps.length cp),EnvX S]) hX hq hW (th4 (DiskX.firm _ _) hD (TabX.firm _ _ _) hT (PsX.firm _ _) hP (EnvX.firm _) hE));have HPK:=Lib.hid hp;have HO:=Lib.hid ho
 have HRET:Hid (∀(W:World) (cs:Array Value) (fr),W.heap[w.heap.size+0]? = some (.cells cs 39 fr)→cs.size=10→∀tmps:Array Value,tmps.getD 2 undef = .pointer (some ⟨w.heap.size+0,0,none⟩)→(results Tryz.f56 tmps).run Tryz.prog W = .ok (.tuple #[.agg cs,tmps.getD 3 undef]) W):=Lib.hid fun W cs fr h hs tmps ht =>
  results_ct (p:=2) (u:=3) (ty:=39) rfl tmps W (w.heap.size+0) _ cs fr _ ht h Tryz.underlying39 rfl (by rw[hs];kernel_rfl)
 clear hX hq hW hD hT hP hE ho hp;go_enter Tryz.func56,Tryz.ntmps56;go_upto_region 1 with(fail);refine code_fresh1 ?_;intro W1 hb hA0 hs;have S1:=Lib.hid (S0.out.new1 hb hA0);clear hb hA0 hs;go_wp2_with fail;refine(pdescR_c _ S k a c _ _ _ _ _ _ _ _ bw W1  S1.out.oldX (S1.out.inX 0 rfl) (S1.out.at 0 rfl) (S1.out.g 0 rfl) (S1.out.g 1 rfl) (S1.out.g 2 rfl) (S1.out.g 3 rfl) HO.out).mono ?_;rintro e W2 ⟨j,d,ev1,rfl,hev,hjd,hb⟩;have S2:=Lib.hid (S1.out.call hb);have HEV1:=Lib.hid hev;have HJD:=Lib.hid hjd;clear hev hjd;clear hb;go_upto_region 2 with(first | (refine wpList_fresh1 ?_;intro W3 hb hn hs;have S3:=Lib.hid (S2.out.new1 hb hn);have h_x:=S3.out.at 2 rfl;clear hb hn hs) | (refine wpList_store_row rfl 82 _ _ rfl _ rfl rfl h_x rfl (by kernel_rfl) rfl ?_;intro W4 hb hg hs hn;have S4:=Lib.hid (S3.out.set 2 rfl hb hg hs hn);clear hb hg hs hn));clear h_x;obtain⟨bx,hbx⟩ : ∃bx,bx=W2.heap.size:=⟨_,rfl⟩;rw[←hbx]at S4 ⊢;clear hbx;obtain⟨e1,he⟩ : ∃e,e=descE k a c.fd (fun x:DescL=>x.rd):=⟨_,rfl⟩;have HER1:=Lib.hid he;clear he;by_cases h0:e1=0
 rotate_left
 · have H01:=Lib.hid h0
   obtain⟨et1,ex1,rfl⟩:=(show ErrK e1 ev1 by rw[HER1.out];exact HEV1.out).no h0;clear h0;have HR:Hid (useK k (a:Int) c.fd (fun x:DescL=>x.rd) (fun i x=>readK k i x c.n)=(k,errR 12)):=Lib.hid (use_no (by rw[←HER1.out];exact H01.out));have HE12:Hid (e1=12):=Lib.hid (by rw[HER1.out];exact descE_12 (by rw[←HER1.out];exact H01.out));go_upto_region 3 with(fail);have h_s:=(S4.out.at 1 rfl);go_wp2_with (first | (refine wpList_store_row rfl 39 _ _ rfl _ rfl rfl h_s rfl (by kernel_rfl) rfl ?_;intro W5 hb hg hs hn;have S5:=Lib.hid (S4.out.set 1 rfl hb hg hs hn);clear hb hg hs hn));refine bodyPost_ret (HRET.out _ _ _ (S5.out.at 1 rfl) rfl _ rfl) rfl ?_;rw[HR.out];exact WorkIs.no (r:=errR 0) (ar:=none) (cr:=0) (by rw[←HE12.out,HER1.out];exact HEV1.out) (by decide) S5.out.bel (LsX.none _ _) (S5.out.at 0 rfl)
 · subst h0
   obtain rfl:=(show ErrK 0 ev1 by rw[HER1.out];exact HEV1.out).ok;obtain⟨rfl,rfl⟩:=HJD.out HER1.out.symm;have HR1:=Lib.hid (show useK k (a:Int) c.fd (fun x:DescL=>x.rd) (fun i x=>readK k i x c.n)=_ from use_is HER1.out.symm);obtain⟨j,hj⟩ : ∃j,j=placeT k.t (a:Int) c.fd:=⟨_,rfl⟩;obtain⟨d,hd⟩ : ∃d,d=foundT k.t (a:Int) c.fd:=⟨_,rfl⟩;(try rw[←hj]at HR1);(try rw[←hd]at HR1);rw[←hd]at S4;rw[←hj];have HJ:=Lib.hid hj;have HD:=Lib.hid hd;clear hj hd HJD;have HHAS:Hid (hasT k.t (a:Int) c.fd=true):=Lib.hid (descE_hasT HER1.out.symm);obtain⟨s,hs⟩ : ∃s,s=(readL k.l d.ino d.pos c.n).1:=⟨_,rfl⟩;obtain⟨f,hf⟩ : ∃f,f=(readL k.l d.ino d.pos c.n).2:=⟨_,rfl⟩;have HS:=Lib.hid hs;have HF:=Lib.hid hf;clear hs hf;go_upto_region 4 with(fail);have h_wk:=(S4.out.at 0 rfl);have h_x:=(S4.out.at 2 rfl);refine wp_region_held_drew (S:=fun W=>W.heap[bw]? = some (.cells #[.slice ao k.l.length co, .int .i64 k.most, .int .i64 k.room, .slice ad k.t.ds.length cd, .slice af k.t.fs.length cf, .slice ap k.ps.length cp, .int .i64 (a:Int), .int .i64 c.kind, .int .i64 c.fd, .int .i64 c.fd2, .int .i64 c.n, .int .i64 c.mode, .int .i64 c.flags, .string (bs c.path), .string (bs c.path2), .string (bs c.data)] 59 (0,0))∧W.heap[bx]? = some (.cells #[.int .i64 d.ino, .int .i64 d.pos, .bool d.rd, .bool d.wr, .int .i64 d.refs, .int .i64 d.lock] 82 (0,0))∧W.rangeAt bw 0 [.slice ao k.l.length co, .int .i64 k.most, .int .i64 k.room]∧True) (by kernel_rfl) ⟨(S4.out.at 0 rfl),(S4.out.at 2 rfl),w_disk (S4.out.at 0 rfl),trivial⟩ (fun hHeld=> ?_)
   clear h_wk h_x;have S5:=Lib.hid (S4.out.call (Below.refl W4.heap.size W4).drew);generalize W4.drew=W5 at *;refine wpAnyH_take (i:=0) (v:= ?v125) rfl (by kernel_rfl) (by kernel_rfl) (by kernel_rfl) (fun _ _ _ h=>h) (Or.inl ⟨by rfl,?hy125⟩) hHeld ?rest125
   case hy125=>(intro w hSw;(try dsimp only at hSw);(try go_split_ands);go_simp;first | done | with_reducible rfl)
   (try simp only[List.getElem_toArray]);(try simp only[List.getElem_cons_succ]);(try simp only[List.getElem_cons_zero]);(try simp only[Act.put]);(try simp only[List.setIfInBounds_toArray]);(try simp only[List.set_cons_succ]);(try simp only[List.set_cons_zero]);refine wpAnyH_take (i:=1) (v:= ?v126) rfl (by kernel_rfl) (by kernel_rfl) (by kernel_rfl) (fun _ _ _ h=>h) (Or.inl ⟨by rfl,?hy126⟩) hHeld ?rest126
   case hy126=>(intro w hSw;(try dsimp only at hSw);(try go_split_ands);go_simp;first | done | with_reducible rfl)
   (try simp only[List.getElem_toArray]);(try simp only[List.getElem_cons_succ]);(try simp only[List.getElem_cons_zero]);(try simp only[Act.put]);(try simp only[List.setIfInBounds_toArray]);(try simp only[List.set_cons_succ]);(try simp only[List.set_cons_zero]);refine wpAnyH_take (i:=2) (v:= ?v127) rfl (by kernel_rfl) (by kernel_rfl) (by kernel_rfl) (fun _ _ _ h=>h) (Or.inl ⟨by rfl,?hy127⟩) hHeld ?rest127
   case hy127=>(intro w hSw;(try dsimp only at hSw);(try go_split_ands);go_simp;first | done | with_reducible rfl)
   (try simp only[List.getElem_toArray]);(try simp only[List.getElem_cons_succ]);(try simp only[List.getElem_cons_zero]);(try simp only[Act.put]);(try simp only[List.setIfInBounds_toArray]);(try simp only[List.set_cons_succ]);(try simp only[List.set_cons_zero]);refine wpAnyH_take (i:=3) (v:= ?v128) rfl (by kernel_rfl) (by kernel_rfl) (by kernel_rfl) (fun _ _ _ h=>h) (Or.inl ⟨by rfl,?hy128⟩) hHeld ?rest128
   case hy128=>(intro w hSw;(try dsimp only at hSw);(try go_split_ands);go_simp;first | done | with_reducible rfl)
   (try simp only[List.getElem_toArray]);(try simp only[List.getElem_cons_succ]);(try simp only[List.getElem_cons_zero]);(try simp only[Act.put]);(try simp only[List.setIfInBounds_toArray]);(try simp only[List.set_cons_succ]);(try simp only[List.set_cons_zero]);refine wpAnyH_take (i:=4) rfl (by kernel_rfl) (by kernel_rfl) (by kernel_rfl) (fun _ _ _ h=>h) (yieldsIf_load_mid (by rfl) 24 _ rfl _ 0 rfl _ _ (fun _ h=>h.2.2.1) Tryz.underlying24 rfl (by kernel_rfl)) hHeld ?_;(try simp only[List.getElem_toArray]);(try simp only[List.getElem_cons_succ]);(try simp only[List.getElem_cons_zero]);(try simp only[Act.put]);(try simp only[List.setIfInBounds_toArray]);(try simp only[List.set_cons_succ]);(try simp only[List.set_cons_zero]);refine wpAnyH_take (i:=5) (v:= ?v129) rfl (by kernel_rfl) (by kernel_rfl) (by kernel_rfl) (fun _ _ _ h=>h) (Or.inl ⟨by rfl,?hy129⟩) hHeld ?rest129
   case hy129=>(intro w hSw;(try dsimp only at hSw);(try go_split_ands);go_simp;first | done | with_reducible rfl)
   (try simp only[List.getElem_toArray]);(try simp only[List.getElem_cons_succ]);(try simp only[List.getElem_cons_zero]);(try simp only[Act.put]);(try simp only[List.setIfInBounds_toArray]);(try simp only[List.set_cons_succ]);(try simp only[List.set_cons_zero]);refine wpAnyH_take (i:=6) (v:= ?v130) rfl (by kernel_rfl) (by kernel_rfl) (by kernel_rfl) (fun _ _ _ h=>h) (Or.inl ⟨by rfl,?hy130⟩) hHeld ?rest130
   case hy130=>(intro w hSw;(try dsimp only at hSw);have hcc:=(cells6 hSw.2.1).1;(try go_split_ands);go_simp;first | done | with_reducible rfl)
   (try simp only[List.getElem_toArray]);(try simp only[List.getElem_cons_succ]);(try simp only[List.getElem_cons_zero]);(try simp only[Act.put]);(try simp only[List.setIfInBounds_toArray]);(try simp only[List.set_cons_succ]);(try simp only[List.set_cons_zero]);refine wpAnyH_take (i:=7) (v:= ?v131) rfl (by kernel_rfl) (by kernel_rfl) (by kernel_rfl) (fun _ _ _ h=>h) (Or.inl ⟨by rfl,?hy131⟩) hHeld ?rest131
   case hy131=>(intro w hSw;(try dsimp only at hSw);(try go_split_ands);go_simp;first | done | with_reducible rfl)
   (try simp only[List.getElem_toArray]);(try simp only[List.getElem_cons_succ]);(try simp only[List.getElem_cons_zero]);(try simp only[Act.put]);(try simp only[List.setIfInBounds_toArray]);(try simp only[List.set_cons_succ]);(try simp only[List.set_cons_zero]);refine wpAnyH_take (i:=8) (v:= ?v132) rfl (by kernel_rfl) (by kernel_rfl) (by kernel_rfl) (fun _ _ _ h=>h) (Or.inl ⟨by rfl,?hy132⟩) hHeld ?rest132
   case hy132=>(intro w hSw;(try dsimp only at hSw);have hcc:=(cells6 hSw.2.1).2.1;(try go_split_ands);go_simp;first | done | with_reducible rfl)
   (try simp only[List.getElem_toArray]);(try simp only[List.getElem_cons_succ]);(try simp only[List.getElem_cons_zero]);(try simp only[Act.put]);(try simp only[List.setIfInBounds_toArray]);(try simp only[List.set_cons_succ]);(try simp only[List.set_cons_zero]);refine wpAnyH_take (i:=9) (v:= ?v133) rfl (by kernel_rfl) (by kernel_rfl) (by kernel_rfl) (fun _ _ _ h=>h) (Or.inl ⟨by rfl,?hy133⟩) hHeld ?rest133
   case hy133=>(intro w hSw;(try dsimp only at hSw);(try go_split_ands);go_simp;first | done | with_reducible rfl)
   (try simp only[List.getElem_toArray]);(try simp only[List.getElem_cons_succ]);(try simp only[List.getElem_cons_zero]);(try simp only[Act.put]);(try simp only[List.setIfInBounds_toArray]);(try simp only[List.set_cons_succ]);(try simp only[List.set_cons_zero]);refine wpAnyH_take (i:=10) (v:= ?v134) rfl (by kernel_rfl) (by kernel_rfl) (by kernel_rfl) (fun _ _ _ h=>h) (Or.inl ⟨by rfl,?hy134⟩) hHeld ?rest134
   case hy134=>(intro w hSw;(try dsimp only at hSw);(try go_split_ands);go_simp;first | done | with_reducible rfl)
   (try simp only[List.getElem_toArray]);(try simp only[List.getElem_cons_succ]);(try simp only[List.getElem_cons_zero]);(try simp only[Act.put]);(try simp only[List.setIfInBounds_toArray]);(try simp only[List.set_cons_succ]);(try simp only[List.set_cons_zero]);refine wpAnyH_take (i:=11) (v:= ?v135) rfl (by kernel_rfl) (by kernel_rfl) (by kernel_rfl) (fun _ _ _ h=>h) (Or.inl ⟨by rfl,?hy135⟩) hHeld ?rest135
   case hy135=>(intro w hSw;(try dsimp only at hSw);(try go_split_ands);go_simp;first | done | with_reducible rfl)
   (try simp only[List.getElem_toArray]);(try simp only[List.getElem_cons_succ]);(try simp only[List.getElem_cons_zero]);(try simp only[Act.put]);(try simp only[List.setIfInBounds_toArray]);(try simp only[List.set_cons_succ]);(try simp only[List.set_cons_zero]);refine wpAnyH_take (i:=12) (v:= ?v136) rfl (by kernel_rfl) (by kernel_rfl) (by kernel_rfl) (fun _ _ _ h=>h) (Or.inl ⟨by rfl,?hy136⟩) hHeld ?rest136
   case hy136=>(intro w hSw;(try dsimp only at hSw);(try go_split_ands);go_simp;first | done | with_reducible rfl)
   (try simp only[List.getElem_toArray]);(try simp only[List.getElem_cons_succ]);(try simp only[List.getElem_cons_zero]);(try simp only[Act.put]);(try simp only[List.setIfInBounds_toArray]);(try simp only[List.set_cons_succ]);(try simp only[List.set_cons_zero]);refine wpAnyH_take (i:=13) (v:= ?v137) rfl (by kernel_rfl) (by kernel_rfl) (by kernel_rfl) (fun _ _ _ h=>h) (Or.inl ⟨by rfl,?hy137⟩) hHeld ?rest137
   case hy137=>(intro w hSw;(try dsimp only at hSw);have hcc:=(cells16 hSw.1).2.2.2.2.2.2.2.2.2.2.1;(try go_split_ands);go_simp;first | done | with_reducible rfl)
   (try simp only[List.getElem_toArray]);(try simp only[List.getElem_cons_succ]);(try simp only[List.getElem_cons_zero]);(try simp only[Act.put]);(try simp only[List.setIfInBounds_toArray]);(try simp only[List.set_cons_succ]);(try simp only[List.set_cons_zero]);refine wpAnyH_ready (rs:= [14]) (by kernel_rfl) (by simp) ?_;refine AllReadyH.cons rfl (fun K hK=> ?_) AllReadyH.nil;go_simp;refine(pread_c k.l k.most k.room d.ino d.pos c.n _ _ W5 ((DiskX.firm _ _).sub (S5.out.g 0 rfl) fun _ h=>h.elim) HO.out.ok.len HO.out.ok.nms).mono ?_;rintro e W6 ⟨rfl,hb⟩;have S6:=Lib.hid (S5.out.call hb);rw[←HS.out,←HF.out];clear hb hHeld;go_wp2_with fail;refine hK.out _ _ ⟨(S6.out.at 0 rfl),(S6.out.at 2 rfl),w_disk (S6.out.at 0 rfl),trivial⟩ (fun hHeld=> ?_);clear hK K;(try simp only[List.getElem_toArray]);(try simp only[List.getElem_cons_succ]);(try simp only[List.getElem_cons_zero]);(try simp only[Act.put]);(try simp only[List.setIfInBounds_toArray]);(try simp only[List.set_cons_succ]);(try simp only[List.set_cons_zero]);refine wpAnyH_take (i:=15) (v:= ?v138) rfl (by kernel_rfl) (by kernel_rfl) (by kernel_rfl) (fun _ _ _ h=>h) (Or.inl ⟨by rfl,?hy138⟩) hHeld ?rest138
   case hy138=>(intro w hSw;(try dsimp only at hSw);(try go_split_ands);go_simp;first | done | with_reducible rfl)
   (try simp only[List.getElem_toArray]);(try simp only[List.getElem_cons_succ]);(try simp only[List.getElem_cons_zero]);(try simp only[Act.put]);(try simp only[List.setIfInBounds_toArray]);(try simp only[List.set_cons_succ]);(try simp only[List.set_cons_zero]);refine wpAnyH_take (i:=16) (v:= ?v139) rfl (by kernel_rfl) (by kernel_rfl) (by kernel_rfl) (fun _ _ _ h=>h) (Or.inl ⟨by rfl,?hy139⟩) hHeld ?rest139
   case hy139=>(intro w hSw;(try dsimp only at hSw);(try go_split_ands);go_simp;first | done | with_reducible rfl)
   (try simp only[List.getElem_toArray]);(try simp only[List.getElem_cons_succ]);(try simp only[List.getElem_cons_zero]);(try simp only[Act.put]);(try simp only[List.setIfInBounds_toArray]);(try simp only[List.set_cons_succ]);(try simp only[List.set_cons_zero]);refine wpAnyH_take (i:=17) (v:= ?v140) rfl (by kernel_rfl) (by kernel_rfl) (by kernel_rfl) (fun _ _ _ h=>h) (Or.inl ⟨by rfl,?hy140⟩) hHeld ?rest140
   case hy140=>(intro w hSw;(try dsimp only at hSw);(try go_split_ands);go_simp;first | done | with_reducible rfl)
   (try simp only[List.getElem_toArray]);(try simp only[List.getElem_cons_succ]);(try simp only[List.getElem_cons_zero]);(try simp only[Act.put]);(try simp only[List.setIfInBounds_toArray]);(try simp only[List.set_cons_succ]);(try simp only[List.set_cons_zero]);refine wpAnyH_take (i:=18) (v:= ?v141) rfl (by kernel_rfl) (by kernel_rfl) (by kernel_rfl) (fun _ _ _ h=>h) (Or.inl ⟨by rfl,?hy141⟩) hHeld ?rest141
   case hy141=>(intro w hSw;(try dsimp only at hSw);(try go_split_ands);go_simp;first | done | with_reducible rfl)
   (try simp only[List.getElem_toArray]);(try simp only[List.getElem_cons_succ]);(try simp only[List.getElem_cons_zero]);(try simp only[Act.put]);(try simp only[List.setIfInBounds_toArray]);(try simp only[List.set_cons_succ]);(try simp only[List.set_cons_zero]);refine wpAnyH_take (i:=19) (v:= ?v142) rfl (by kernel_rfl) (by kernel_rfl) (by kernel_rfl) (fun _ _ _ h=>h) (Or.inl ⟨by rfl,?hy142⟩) hHeld ?rest142
   case hy142=>(intro w hSw;(try dsimp only at hSw);(try go_split_ands);go_simp;first | done | with_reducible rfl)
   (try simp only[List.getElem_toArray]);(try simp only[List.getElem_cons_succ]);(try simp only[List.getElem_cons_zero]);(try simp only[Act.put]);(try simp only[List.setIfInBounds_toArray]);(try simp only[List.set_cons_succ]);(try simp only[List.set_cons_zero]);refine wpAnyH_done (by kernel_rfl) ?_ _;have h_x:=(S6.out.at 2 rfl);go_wp2_with (first | (refine wpList_load_row rfl 82 _ rfl _ rfl 82 _ (0,0) _ h_x Tryz.underlying82 rfl (by kernel_rfl) ?_));refine(padvance_c _ k.t j (s.length:Int) d _ _ _ _ _ _ _ _ _ _ _ _ _ _ _ _ _ _ bw W6 S6.out.oldX (S6.out.inX 0 rfl) (S6.out.at 0 rfl) (S6.out.g 1 rfl) HO.out.ok.size HO.out.ok.rig.tab).mono ?_;rintro e W7 ⟨ad2,cd2,af2,cf2,rfl,hT,hb,hw⟩;clear h_x;have S7:=Lib.hid ((S6.out.callw 0 rfl hb hw).more (TabX.firm _ _ _) hT);clear hb hw hT;obtain⟨-, -, -, -, -, -, -, -,wk8, -, -, -, -, -, -, -⟩:=cells16 (S7.out.at 0 rfl);go_wp2_with fail;refine(pwrongFd_c c.fd f W7 HO.out.f0 HO.out.f1 (S7.out.g 3 rfl)).mono ?_;rintro e W8 ⟨v,rfl,hv,hb⟩;clear wk8;have S8:=Lib.hid (S7.out.call hb);have HV:=Lib.hid hv;clear hb hv;by_cases h0:f=0
   · subst h0
     have HPW:Hid (posW d s.length=posD d s.length):=Lib.hid (posW_is (by rw[HS.out];exact read_far HO.out.ok (by rw[HD.out];exact HPK.out.found HO.out.ok.rig.tab HHAS.out) HF.out.symm));have HR:Hid (useK k (a:Int) c.fd (fun x:DescL=>x.rd) (fun i x=>readK k i x c.n)=(withT k (setT k.t j (posD d s.length)),textR s)):=Lib.hid (by rw[HR1.out,HS.out];exact read_is HF.out.symm);rw[HPW.out]at S8;have h_s:=(S8.out.at 1 rfl);go_wp2_with (first | (refine wpList_store_row rfl 39 _ _ rfl _ rfl rfl h_s rfl (by kernel_rfl) rfl ?_;intro W9 hb hg hs hn;have S9:=Lib.hid (S8.out.set 1 rfl hb hg hs hn);clear hb hg hs hn));refine bodyPost_ret (HRET.out _ _ _ (S9.out.at 1 rfl) rfl _ rfl) rfl ?_;rw[HR.out];exact⟨_,none,0,_,_,rfl,HV.out,S9.out.bel,LsX.none _ _,S9.out.at 0 rfl,fun _=>⟨rfl,_,_,_,_,_,_,_,_,rfl,S9.out.gX 0 rfl,S9.out.gX 4 rfl,S9.out.gX 2 rfl⟩⟩
   · have H0:=Lib.hid h0
     clear h0;have HR:Hid (useK k (a:Int) c.fd (fun x:DescL=>x.rd) (fun i x=>readK k i x c.n)=(k,errR f)):=Lib.hid (by rw[HR1.out,HF.out];exact read_no (by rw[←HF.out];exact H0.out));have h_s:=(S8.out.at 1 rfl);go_wp2_with (first | (refine wpList_store_row rfl 39 _ _ rfl _ rfl rfl h_s rfl (by kernel_rfl) rfl ?_;intro W9 hb hg hs hn;have S9:=Lib.hid (S8.out.set 1 rfl hb hg hs hn);clear hb hg hs hn));refine bodyPost_ret (HRET.out _ _ _ (S9.out.at 1 rfl) rfl _ rfl) rfl ?_;rw[HR.out];exact WorkIs.no (r:=textR s) (ar:=none) (cr:=0) (HV.out) (H0.out) S9.out.bel (LsX.none _ _) (S9.out.at 0 rfl)
end Go.Proofs.YtbjkkijickbppaaGreatDoor
namespace Go.Proofs.YtbjkkijickbppaaGreatDoor
open Go.RowKit Go.Shelf
attribute [local go_sem ↓] Go.wp_at_zero Go.wp_at_succ
theorem dskOf {l:List NodeL}(hr:RightP l)(hs:Small l):Dsk l :=
 ⟨fun ms e=>⟨⟨by rw[←pl_len,e];exact Nat.le_trans hs.1 (by decide),fun n hn=>by rw[e]at hn;have:=(hs.2 n hn).2;omega,by rw[e];exact hr⟩,fun n hn=>by rw[e]at hn;have:=(hs.2 n hn).1;omega⟩,hs⟩
end Go.Proofs.YtbjkkijickbppaaGreatDoor
namespace Go.Proofs.YtbjkkijickbppaaGreatDoor
open Go.RowKit
def InI (n:Int):Prop:= -9223372036854775808≤n∧n≤9223372036854775807
theorem in0:InI 0:=⟨by decide,by decide⟩
def PosD (ds:List DescL):Prop:=∀d∈ds,InI d.pos
theorem posD_at {ds:List DescL}(h:PosD ds)(i:Nat):InI (ds.getD i zeroD).pos:=by
 rcases Nat.lt_or_ge i ds.length with h1 | h1
 · rw[List.getD_eq_getElem?_getD,List.getElem?_eq_getElem h1];exact h _ (List.getElem_mem _)
 · rw[List.getD_eq_getElem?_getD,List.getElem?_eq_none h1];exact in0
theorem posD_set {ds:List DescL}(h:PosD ds)(i:Nat){x:DescL}(hx:InI x.pos):PosD (ds.set i x):=fun d hd=>by
 rcases List.mem_or_eq_of_mem_set hd with h1 | rfl
 · exact h d h1
 · exact hx
theorem posT_desc {t:TabL}(h:PosD t.ds)(i:Int):InI (descT t i).pos:=posD_at h _
theorem posT_found {t:TabL}(h:PosD t.ds)(p fd:Int):InI (foundT t p fd).pos:=by
 unfold foundT;split
 · exact posT_desc h _
 · exact in0
theorem posT_set {t:TabL}(h:PosD t.ds)(i:Int){x:DescL}(hx:InI x.pos):PosD (setT t i x).ds:=by
 unfold setT;split
 · exact h
 · exact posD_set (x:= { x with refs:=(descT t i).refs}) h _ hx
theorem posT_put {ds:List DescL}(h:PosD ds)(i:Nat){x:DescL}(hx:InI x.pos):PosD (putD1 ds i x):=by
 unfold putD1;split
 · intro d hd
   rcases List.mem_append.1 hd with hd | hd
   · exact h d hd
   · rw[List.mem_singleton]at hd;subst hd;exact hx
 · exact posD_set h _ hx
theorem posT_open {t:TabL}(h:PosD t.ds)(p:Int){x:DescL}(hx:InI x.pos):PosD (openT t p x).1.ds:=by
 unfold openT;split
 · exact h
 · split
   · exact h
   · exact posT_put (x:= { x with refs:=1}) h _ hx
theorem posT_dup {t:TabL}(h:PosD t.ds)(p fd:Int):PosD (dupT t p fd).1.ds:=by
 unfold dupT;split
 · exact h
 · split
   · exact h
   · exact posD_set (x:= { foundT t p fd with refs:=(foundT t p fd).refs+1}) h _ (posT_found h p fd)
theorem posT_close {t:TabL}(h:PosD t.ds)(p fd:Int):PosD (closeT t p fd).1.ds:=by
 unfold closeT;split
 · exact h
 · refine posD_set h _ ?_
   split
   · exact in0
   · exact posT_found h _ _
theorem posT_lock {t:TabL}(h:PosD t.ds)(i kind:Int):PosD (lockT t i kind).1.ds:=by
 unfold lockT;split
 · exact h
 · split
   · exact h
   · split
     · exact h
     · exact posT_set h _ (x:=withL (descT t i) kind) (posT_desc h i)
structure KSt (c:Nat) (k:KernL):Prop where
 rig:RigK k
 siz:KrnS c k
 pos:PosD k.t.ds
theorem KSt.mono {c c':Nat}{k:KernL}(h:KSt c k)(hc:c≤c'):KSt c' k:=⟨h.rig,h.siz.mono hc,h.pos⟩
theorem KSt.ok {c:Nat}{k:KernL}(h:KSt c k)(hc:c≤120):KrnOk k :=
 have sr:=small_right h.rig h.siz
 ⟨h.rig,h.siz.mono hc,dskOf h.rig.rightP ⟨Nat.le_trans sr.1 (by decide),fun n hn=>⟨Nat.le_trans (sr.2 n hn).1 (by decide),by have:=(sr.2 n hn).2;omega⟩⟩⟩
structure CallOk (c:CallL):Prop where
 p1:c.path.length≤10000
 p2:c.path2.length≤10000
 dt:c.data.length≤1000
 f0:InI c.fd
 g0:InI c.fd2
 kd:Kd c.kind
theorem KSt.do {c:Nat}{k:KernL}(h:KSt c k)(hc:c≤120)(p:Int){x:CallL}(hx:CallOk x):KSt (c+1) (doK k p x).1:=by
 refine⟨right_do h.rig p x hx.kd,size_do h.siz p x,?_⟩;have hok:=h.ok hc;have hp:=h.pos;unfold doK;split
 · exact hp
 · split
   · unfold openK
     split
     · exact hp
     · split
       · exact hp
       · split
         · exact hp
         · unfold openFrom
           split
           · exact hp
           · split
             · unfold openNew
               split
               · exact hp
               · split
                 · exact hp
                 · unfold openAt
                   split
                   · exact hp
                   · exact posT_open hp _ (x:=newD x.flags _) in0
             · unfold openOld openAt
               split
               · exact hp
               · exact posT_open hp _ (x:=newD x.flags _) in0
   · split
     · unfold shutK
       split
       · exact hp
       · exact posT_close hp _ _
     · split
       · unfold descK
         split
         · exact hp
         · split
           · unfold readK
             split
             · exact hp
             · rename_i h3
               exact posT_set hp _ (x:=posD _ _) (read_far hok (posT_found hp _ _) (Decidable.of_not_not h3))
           · split
             · unfold writeK
               split
               · exact hp
               · rename_i h3
                 exact posT_set hp _ (x:=posD _ _) (write_far hx.dt (posT_found hp _ _) (Decidable.of_not_not h3))
             · split
               · unfold listK;split<;>exact hp
               · split
                 · unfold flockK
                   split
                   · exact hp
                   · exact posT_lock hp _ _
                 · unfold dupK
                   split
                   · exact hp
                   · exact posT_dup hp _ _
       · split
         · unfold renamedK
           split
           · exact hp
           · split<;>exact hp
         · split
           · unfold lookedK
             split
             · exact hp
             · split
               · exact hp
               · unfold lookAt
                 split
                 · exact hp
                 · split
                   · exact hp
                   · split
                     · exact hp
                     · split
                       · exact hp
                       · split
                         · exact hp
                         · exact hp
           · unfold changedK
             split<;>exact hp
end Go.Proofs.YtbjkkijickbppaaGreatDoor
namespace Go.Proofs.YtbjkkijickbppaaGreatDoor
open Go.RowKit Go.Shelf
attribute [local go_sem ↓] Go.wp_at_zero Go.wp_at_succ
def rowM (v:Value):Thing:=RdX 1 v 8 (intC [-1, -1, -1, -1, -1, -1, -1, -1])
def RowsT (vs:List Value):Thing:=fun X W=>∀v,v∈vs→rowM v X W
theorem RowsT.firm (vs:List Value):Firm (RowsT vs):=Firm.all fun _=>RdX.firm _ _ _ _
end Go.Proofs.YtbjkkijickbppaaGreatDoor
namespace Go.Proofs.YtbjkkijickbppaaGreatDoor
open Go.RowKit Go.Shelf
attribute [local go_sem ↓] Go.wp_at_zero Go.wp_at_succ
def SoundIs (k:KernL)(e:Ending)(w w':World):Prop:=∃b,e = .returned (.bool b)∧(b=true→SmallK k∧RigK k)∧Below w.heap.size w w'
theorem names_small {l:List NodeL}(h:Small l) : ∀n∈l,n.names.length≤10000:=fun n hn=>Nat.le_trans (h.2 n hn).2 (by decide)
set_option maxRecDepth 100000 in
set_option maxHeartbeats 4000000 in
theorem sound_c (X:Nat→Prop)(k:KernL)(ao ad af ap:Option Addr)(co cd cf cp:Nat)(w:World)(hX:Old X w)(hD:DiskX k.l (.slice ao k.l.length co) X w)(hT:TabX k.t (.slice ad k.t.ds.length cd) (.slice af k.t.fs.length cf) X w)(hP:PsX k.ps (.slice ap k.ps.length cp) X w)(hf:FitD k.l):Calls Tryz.prog 4 #[.agg #[.slice ao k.l.length co, .int .i64 k.most, .int .i64 k.room, .slice ad k.t.ds.length cd, .slice af k.t.fs.length cf, .slice ap k.ps.length cp]] w fun e w'=>SoundIs k e w w':=by
 have S0:=Lib.hid (Sf.start (G:= [DiskX k.l (.slice ao k.l.length co),TabX k.t (.slice ad k.t.ds.length cd) (.slice af k.t.fs.length cf),PsX k.ps (.slice ap k.ps.length cp)]) hX (th3 (DiskX.firm _ _) hD (TabX.firm _ _ _) hT (PsX.firm _ _) hP));have HF:=Lib.hid hf;clear hX hD hT hP hf;go_enter Tryz.func4,Tryz.ntmps4;go_upto_region 1 with(fail);refine code_fresh1 ?_;intro W1 hb hA0 hs;have S1:=Lib.hid (S0.out.new1 hb hA0);clear hb hA0 hs;have h_k:=(S1.out.at 0 rfl);go_wp2_with (first | (refine wpList_load_row rfl 31 _ rfl _ rfl 31 _ (0,0) _ h_k Tryz.underlying31 rfl (by kernel_rfl) ?_));refine(small_c k _ _ _ _ _ _ _ _ W1 (S1.out.g 0 rfl) (S1.out.g 1 rfl) (S1.out.g 2 rfl)).mono ?_;rintro e W2 ⟨b,rfl,hsm,hb⟩;clear h_k;have S2:=Lib.hid (S1.out.call hb);have HSM:=Lib.hid hsm;clear hsm hb
 cases b with
 | false =>
    go_wp2_with fail;go_ret;exact⟨false,rfl,fun h=>(by cases h),S2.out.bel⟩
 | true =>
    have HS:=Lib.hid (HSM.out rfl);have h_k:=(S2.out.at 0 rfl);go_wp2_with (first | (refine wpList_load_row rfl 31 _ rfl _ rfl 31 _ (0,0) _ h_k Tryz.underlying31 rfl (by kernel_rfl) ?_) | (refine wpList_load_rowG rfl 31 _ rfl _ rfl 31 _ (0,0) _ h_k Tryz.underlying31 rfl (by kernel_rfl) ?_));refine(kern_c _ k _ _ _ _ _ _ _ _ W2 S2.out.oldX (S2.out.g 0 rfl) (S2.out.g 1 rfl) (S2.out.g 2 rfl) (Nat.le_trans HS.out.disk.1 (by decide)) (names_small HS.out.disk) HS.out.tab (Nat.le_trans HS.out.ps (by decide))).mono ?_;rintro e W3 ⟨ao2,co2,ad2,cd2,ap2,cp2,rfl,hD,hT,hP,hb⟩;clear h_k;have S3:=Lib.hid ((((S2.out.call hb).more (DiskX.firm _ _) hD).more (TabX.firm _ _ _) hT).more (PsX.firm _ _) hP);clear hD hT hP hb;go_wp2_with fail;refine(rrightK_c k _ _ _ _ _ _ _ _ W3 (S3.out.g 3 rfl) (S3.out.g 4 rfl) (S3.out.g 5 rfl) HS.out.tab HS.out.disk HF.out (Nat.le_trans HS.out.ps (by decide))).mono ?_;rintro e W4 ⟨rfl,hb⟩;have S4:=Lib.hid (S3.out.call hb);clear hb;go_wp2_with fail;go_ret;exact⟨rightK k,rfl,fun h=>⟨HS.out,(right_K k).1 h⟩,S4.out.bel⟩
end Go.Proofs.YtbjkkijickbppaaGreatDoor
