/-
  ProcGone.
-/
import Derived.Test.YtpbmbpefophlfaaGreatDoorR46
import Derived.Test.YtpbmbpefophlfaaGreatDoorR41
import Derived.Test.YtpbmbpefophlfaaGreatDoorR39
import Derived.Test.YtpbmbpefophlfaaGreatDoorR47
import Derived.Test.YtpbmbpefophlfaaGreatDoorR45
import Derived.Test.YtpbmbpefophlfaaGreatDoorR33
import Derived.Deep.RegionHeld3
import Derived.Deep.DeepCutAuto
namespace Go.Proofs.YtpbmbpefophlfaaGreatDoor
open Go.RowKit Go.Shelf
attribute [local go_sem ↓] Go.wp_at_zero Go.wp_at_succ

theorem KSt.small {c:Nat}{k:KernL}(h:KSt c k)(hc:c≤121:=by decide):Small k.l:=small_disk h.rig (h.siz.mono hc)
theorem KSt.tab8 {c:Nat}{k:KernL}(h:KSt c k)(hc:c≤121:=by decide):SizeT k.t:=size_tab h.rig (h.siz.mono hc)
theorem eqDescG (x y:DescL)(w:World):(Op.equalIn 10000 60 (dvalD x) (dvalD y)).run Tryz.prog w = .ok (decide (x=y)) w:=by
  have u3:=Tryz.underlying3
  have u4:=Tryz.underlying4
  have a3:=Tryz.isAgg3
  have a4:=Tryz.isAgg4
  have hS : Tryz.prog.underlying 60 = some (.struct (Tryz.prog.fieldsOf 60)):=by kernel_rfl
  rw[show(10000:Nat)=9998+1+1 from rfl,run_equalIn_agg w (9998+1) 60 _ _ hS (by kernel_rfl)]
  simp only[Program.fieldsOf,Tryz.underlying60]
  go_simp
  obtain⟨x1,x2,x3,x4,x5,x6⟩:=x
  obtain⟨y1,y2,y3,y4,y5,y6⟩:=y
  by_cases h1:x1=y1<;>by_cases h2:x2=y2<;>by_cases h3:x3=y3<;>by_cases h4:x4=y4<;>by_cases h5:x5=y5<;>by_cases h6:x6=y6<;>simp[h1,h2,h3,h4,h5,h6]
theorem eqDescGG : Tryz.prog.eqGuardType Tryz.prog.depth 60 = false:=by kernel_rfl
theorem oth_le {fs:List (List Int)}(h : ∀r∈fs,r.length≤8)(p i:Int)(q:Nat):othS fs p i q≤q*8:=by
  induction q with
  | zero=>simp[othS]
  | succ q ih =>
    rw[othS_succ]
    have:(if(q:Int)=p then 0 else(fs.getD q []).count i)≤8:=by
      split
      · omega
      · refine Nat.le_trans List.count_le_length ?_
        rw[List.getD_eq_getElem?_getD]
        rcases Nat.lt_or_ge q fs.length with hq | hq
        · rw[List.getElem?_eq_getElem hq];exact h _ (List.getElem_mem hq)
        · rw[List.getElem?_eq_none hq];exact Nat.zero_le _
    omega
/-- Of a process that was killed: its kernel, what it may do, its descriptors. -/
theorem gone_k {c:Nat}{k:KernL}{a:Nat}(hk:KSt c k)(hl:liveB k.ps (a:Int)=true){m:KernL}(hm:m=closeN k (a:Int) 8) :
    KSt c (killK m (a:Int))∧liveB (killK m (a:Int)).ps (a:Int)=false∧countT (killK m (a:Int)).t (a:Int)=0∧(killK m (a:Int)).t.ds.length=k.t.ds.length∧k.t.fs.length=8∧a<8 ∧
    ∀(n:Nat) (hn:n<(killK m (a:Int)).t.ds.length),((killK m (a:Int)).t.ds[n]).refs=othS k.t.fs (a:Int) (n:Int) 8∧(othS k.t.fs (a:Int) (n:Int) 8=0→(killK m (a:Int)).t.ds[n]=zeroD):=by
  have hs:=shut_all hk hl 8 (Nat.le_refl _)
  have ho:=close_oth hk hl 8 (Nat.le_refl _)
  rw[←hm]at hs ho
  obtain⟨b,hb,hbe,_,_⟩:=live_in hl
  have hp:=hk.rig.procs
  have ha:a<m.ps.length:=by rw[hs.ps];omega
  refine⟨⟨right_killed hs.st.rig (by rw[hs.ps];exact hl) (shut_count hs),size_killed hs.st.siz _,hs.st.pos⟩,?_,(show countT m.t (a:Int)=0 from shut_count hs),ho.2.2,hk.rig.eight,by omega,fun n hn=>gone_desc hk hl hm hn⟩
  show liveB (m.ps.set (a:Int).toNat (deadP (procL m.ps (a:Int)))) (a:Int)=false
  rw[Int.toNat_natCast,(set_live ha _ a).1,if_pos rfl]
  rfl
set_option maxRecDepth 100000 in
set_option maxHeartbeats 8000000 in
theorem procgone_l (S:Nat→Addr)(k:KernL)(ao ad af ap:Option Addr)(co cd cf cp:Nat)(w:World)(hE:Env S w)(hD:DiskX k.l (.slice ao k.l.length co) (fun _=>False) w)(hT:TabX k.t (.slice ad k.t.ds.length cd) (.slice af k.t.fs.length cf) (fun _=>False) w)(hP:PsX k.ps (.slice ap k.ps.length cp) (fun _=>False) w)(hf:FitD k.l)(hpos:PosD k.t.ds)(p:Int)(c:CallL)(_hp:InI p)(_h0:InI c.fd)(_h1:InI c.fd2) :
    Calls Tryz.prog 3 #[.agg #[.slice ao k.l.length co, .int .i64 k.most, .int .i64 k.room, .slice ad k.t.ds.length cd, .slice af k.t.fs.length cf, .slice ap k.ps.length cp], .int .i64 p,callV c] w fun e w'=>e = .returned (.bool true)∧Below w.heap.size w w':=by
  have S0:=Lib.hid (Sf.start (w:=w) (X:=fun _=>False) (G:= [DiskX k.l (.slice ao k.l.length co),TabX k.t (.slice ad k.t.ds.length cd) (.slice af k.t.fs.length cf),PsX k.ps (.slice ap k.ps.length cp),EnvX S]) (fun _ h=>h.elim) (th4 (DiskX.firm _ _) hD (TabX.firm _ _ _) hT (PsX.firm _ _) hP (EnvX.firm _) (EnvX.none hE)))
  have HFD:=Lib.hid hf
  have HPOS:=Lib.hid hpos
  clear hD hT hP hE hf hpos
  go_enter Tryz.func3,Tryz.ntmps3
  go_upto_region 1 with(fail)
  refine code_fresh2 ?_
  intro W1 hb hA0 hA1 hs
  have S1:=Lib.hid (S0.out.new2 hb hA0 hA1)
  clear hb hA0 hA1 hs S0
  have h_k:=(S1.out.at 0 rfl)
  go_wp2_with (first | (refine wpList_load_row rfl 31 _ rfl _ rfl 31 _ (0,0) _ h_k Tryz.underlying31 rfl (by kernel_rfl) ?_))
  refine(sound_c _ k _ _ _ _ _ _ _ _ W1 S1.out.oldX (S1.out.g 0 rfl) (S1.out.g 1 rfl) (S1.out.g 2 rfl) HFD.out).mono ?_
  rintro e W2 ⟨b,rfl,hsm,hb⟩
  clear h_k
  have S2:=Lib.hid (S1.out.call hb)
  have HSM:=Lib.hid hsm
  clear hsm hb S1
  cases b with
  | false =>
    go_wp2_with fail
    go_wp2_with fail
    refine(shown_c _ S W2 S2.out.oldX (S2.out.g 3 rfl)).mono ?_
    rintro e W3 ⟨rfl,hb⟩
    have S3:=Lib.hid (S2.out.call hb)
    clear hb
    go_wp2_with fail
    go_ret
    exact⟨by first | rfl | simp,S3.out.bel⟩
  | true =>
    have HK:Hid (KSt 100 k):=Lib.hid ⟨(HSM.out rfl).2,(HSM.out rfl).1.siz,HPOS.out⟩
    clear HSM
    obtain⟨-, -, -, -, -, -,c6,c7,c8⟩:=cells9 (S2.out.at 1 rfl)
    by_cases l0:200<c.path.length
    · have a0:decide (200<c.path.length)=true:=decide_eq_true l0
      have b0:decide ((200:Int)<(c.path.length:Int))=true:=decide_eq_true (by omega)
      clear l0
      go_wp2_with fail
      go_wp2_with fail
      refine(shown_c _ S W2 S2.out.oldX (S2.out.g 3 rfl)).mono ?_
      rintro e W3 ⟨rfl,hb⟩
      have S3:=Lib.hid (S2.out.call hb)
      clear hb
      go_wp2_with fail
      go_ret
      exact⟨by first | rfl | simp,S3.out.bel⟩
    have a0:decide (200<c.path.length)=false:=decide_eq_false l0
    have b0:decide ((200:Int)<(c.path.length:Int))=false:=decide_eq_false (by omega)
    clear l0
    by_cases l1:200<c.path2.length
    · have a1:decide (200<c.path2.length)=true:=decide_eq_true l1
      have b1:decide ((200:Int)<(c.path2.length:Int))=true:=decide_eq_true (by omega)
      clear l1
      go_wp2_with fail
      go_wp2_with fail
      refine(shown_c _ S W2 S2.out.oldX (S2.out.g 3 rfl)).mono ?_
      rintro e W3 ⟨rfl,hb⟩
      have S3:=Lib.hid (S2.out.call hb)
      clear hb
      go_wp2_with fail
      go_ret
      exact⟨by first | rfl | simp,S3.out.bel⟩
    have a1:decide (200<c.path2.length)=false:=decide_eq_false l1
    have b1:decide ((200:Int)<(c.path2.length:Int))=false:=decide_eq_false (by omega)
    clear l1
    by_cases l2:300<c.data.length
    · have a2:decide (300<c.data.length)=true:=decide_eq_true l2
      have b2:decide ((300:Int)<(c.data.length:Int))=true:=decide_eq_true (by omega)
      clear l2
      go_wp2_with fail
      go_wp2_with fail
      refine(shown_c _ S W2 S2.out.oldX (S2.out.g 3 rfl)).mono ?_
      rintro e W3 ⟨rfl,hb⟩
      have S3:=Lib.hid (S2.out.call hb)
      clear hb
      go_wp2_with fail
      go_ret
      exact⟨by first | rfl | simp,S3.out.bel⟩
    have a2:decide (300<c.data.length)=false:=decide_eq_false l2
    have b2:decide ((300:Int)<(c.data.length:Int))=false:=decide_eq_false (by omega)
    clear l2
    go_wp2_with fail
    refine(shown_c _ S W2 S2.out.oldX (S2.out.g 3 rfl)).mono ?_
    rintro e W3 ⟨rfl,hb⟩
    have S3:=Lib.hid (S2.out.call hb)
    clear hb S2 a0 a1 a2 b0 b1 b2 c6 c7 c8
    go_upto_region 3 with(fail)
    have h_k:=(S3.out.at 0 rfl)
    go_wp2_with (first | (refine wpList_load_row rfl 31 _ rfl _ rfl 31 _ (0,0) _ h_k Tryz.underlying31 rfl (by kernel_rfl) ?_))
    by_cases hl:liveB k.ps p=true
    case neg =>
      refine(pkill_no _ k p _ _ _ _ _ _ _ _ W3 S3.out.oldX (S3.out.g 0 rfl) (S3.out.g 1 rfl) (S3.out.g 2 rfl) (by simpa using hl)).mono ?_
      rintro e W4 ⟨ao4,co4,ad4,cd4,af4,cf4,ap4,cp4,rfl,hd,ht,hp,hb⟩
      have S4:=Lib.hid ((((S3.out.call hb).more (DiskX.firm _ _) hd).more (TabX.firm _ _ _) ht).more (PsX.firm _ _) hp)
      clear hd ht hp hb h_k S3 hl
      go_upto_region 4 with(first | (refine wpList_fresh1 ?_;intro W5 hb hn hs;have S5:=Lib.hid (S4.out.new1 hb hn);have h_a:=S5.out.at 2 rfl;clear hb hn hs) | (refine wpList_store_row rfl 31 _ _ rfl _ rfl rfl h_a rfl (by kernel_rfl) rfl ?_;intro W6 hb hg hs hn;have S6:=Lib.hid (S5.out.set 2 rfl hb hg hs hn);clear hb hg hs hn))
      clear h_a S4 S5
      obtain⟨ba,hba⟩ : ∃ba,ba=W4.heap.size:=⟨_,rfl⟩
      rw[←hba]at S6 ⊢
      clear hba
      go_upto_region 5 with(fail)
      refine wp_region_held_drew (S:=fun W=>W.heap[w.heap.size]? = some (.cells #[.slice ao k.l.length co, .int .i64 k.most, .int .i64 k.room, .slice ad k.t.ds.length cd, .slice af k.t.fs.length cf, .slice ap k.ps.length cp] 31 (0,0))∧W.heap[ba]? = some (.cells #[.slice ao4 k.l.length co4, .int .i64 k.most, .int .i64 k.room, .slice ad4 k.t.ds.length cd4, .slice af4 k.t.fs.length cf4, .slice ap4 k.ps.length cp4] 31 (0,0))∧True) (by kernel_rfl) ⟨(S6.out.at 0 rfl),(S6.out.at 2 rfl),trivial⟩ (fun hHeld=> ?_)
      have S7:=Lib.hid (S6.out.call (Below.refl W6.heap.size W6).drew)
      clear S6
      generalize W6.drew=W7 at *
      refine wpAnyH_take (i:=0) rfl (by kernel_rfl) (by kernel_rfl) (by kernel_rfl) (fun _ _ _ h=>h) (yieldsIf_load_row (by rfl) 31 _ rfl _ rfl 31 _ (0,0) _ (fun _ h=>h.2.1) Tryz.underlying31 rfl (by kernel_rfl)) hHeld ?_
      (try simp only[List.getElem_toArray,List.getElem_cons_zero,Act.put,List.setIfInBounds_toArray,List.set_cons_succ,List.set_cons_zero])
      refine wpAnyH_take (i:=2) rfl (by kernel_rfl) (by kernel_rfl) (by kernel_rfl) (fun _ _ _ h=>h) (yieldsIf_load_row (by rfl) 31 _ rfl _ rfl 31 _ (0,0) _ (fun _ h=>h.1) Tryz.underlying31 rfl (by kernel_rfl)) hHeld ?_
      (try simp only[List.getElem_toArray,List.getElem_cons_succ,List.getElem_cons_zero,Act.put,List.setIfInBounds_toArray,List.set_cons_succ,List.set_cons_zero])
      refine wpAnyH_ready (rs:= [1]) (by kernel_rfl) (by simp) ?_
      refine AllReadyH.cons rfl (fun K hK=> ?_) AllReadyH.nil
      go_simp
      refine(kern_c _ k _ _ _ _ _ _ _ _ W7 S7.out.oldX (S7.out.g 4 rfl) (S7.out.g 5 rfl) (S7.out.g 6 rfl) (Nat.le_trans HK.out.small.1 (by decide)) (names_small HK.out.small) HK.out.tab8 (Nat.le_trans HK.out.rig.procs (by decide))).mono ?_
      rintro e W8 ⟨ao8,co8,ad8,cd8,ap8,cp8,rfl,hD,hT,hP,hb⟩
      have S8:=Lib.hid ((((S7.out.call hb).more (DiskX.firm _ _) hD).more (TabX.firm _ _ _) hT).more (PsX.firm _ _) hP)
      clear hb hHeld hD hT hP S7
      go_wp2_with fail
      refine hK.out _ _ ⟨(S8.out.at 0 rfl),(S8.out.at 2 rfl),trivial⟩ (fun hHeld=> ?_)
      clear hK K
      (try simp only[List.getElem_toArray,List.getElem_cons_succ,List.getElem_cons_zero,Act.put,List.setIfInBounds_toArray,List.set_cons_succ,List.set_cons_zero])
      refine wpAnyH_ready (rs:= [3]) (by kernel_rfl) (by simp) ?_
      refine AllReadyH.cons rfl (fun K hK=> ?_) AllReadyH.nil
      go_simp
      refine(kern_c _ k _ _ _ _ _ _ _ _ W8 S8.out.oldX (S8.out.g 0 rfl) (S8.out.g 1 rfl) (S8.out.g 2 rfl) (Nat.le_trans HK.out.small.1 (by decide)) (names_small HK.out.small) HK.out.tab8 (Nat.le_trans HK.out.rig.procs (by decide))).mono ?_
      rintro e W9 ⟨ao9,co9,ad9,cd9,ap9,cp9,rfl,hD,hT,hP,hb⟩
      have S9:=Lib.hid ((((S8.out.call hb).more (DiskX.firm _ _) hD).more (TabX.firm _ _ _) hT).more (PsX.firm _ _) hP)
      clear hb hHeld hD hT hP S8
      go_wp2_with fail
      refine hK.out _ _ ⟨(S9.out.at 0 rfl),(S9.out.at 2 rfl),trivial⟩ (fun hHeld=> ?_)
      clear hK K
      (try simp only[List.getElem_toArray,List.getElem_cons_succ,List.getElem_cons_zero,Act.put,List.setIfInBounds_toArray,List.set_cons_succ,List.set_cons_zero])
      refine wpAnyH_ready (rs:= [4]) (by kernel_rfl) (by simp) ?_
      refine AllReadyH.cons rfl (fun K hK=> ?_) AllReadyH.nil
      go_simp
      refine(rsameK_c k _ _ _ _ _ _ _ _ _ _ _ _ _ _ _ _ W9 (S9.out.g 7 rfl) (S9.out.g 8 rfl) (S9.out.g 9 rfl) (S9.out.g 10 rfl) (S9.out.g 11 rfl) (S9.out.g 12 rfl) (Nat.le_trans HK.out.small.1 (by decide)) (names_small HK.out.small) HK.out.tab8 (Nat.le_trans HK.out.rig.procs (by decide))).mono ?_
      rintro e W10 ⟨rfl,hb⟩
      have S10:=Lib.hid (S9.out.call hb)
      clear hb hHeld S9
      go_wp2_with fail
      refine hK.out _ _ ⟨(S10.out.at 0 rfl),(S10.out.at 2 rfl),trivial⟩ (fun hHeld=> ?_)
      clear hK K
      (try simp only[List.getElem_toArray,List.getElem_cons_succ,List.getElem_cons_zero,Act.put,List.setIfInBounds_toArray,List.set_cons_succ,List.set_cons_zero])
      refine wpAnyH_take (i:=5) (v:= ?v1) rfl (by kernel_rfl) (by kernel_rfl) (by kernel_rfl) (fun _ _ _ h=>h) (Or.inl ⟨by rfl,?hy1⟩) hHeld ?rest1
      case hy1=>(intro w hSw;(try dsimp only at hSw);(try go_split_ands);go_simp;first | done | with_reducible rfl)
      (try simp only[List.getElem_toArray,List.getElem_cons_succ,List.getElem_cons_zero,Act.put,List.setIfInBounds_toArray,List.set_cons_succ,List.set_cons_zero])
      refine wpAnyH_done (by kernel_rfl) ?_ _
      go_wp2_with fail
      go_ret
      exact⟨by first | rfl | simp,S10.out.bel⟩
    obtain⟨a,ha,rfl,_,_⟩:=live_in hl
    refine(pkill_c _ S k a _ _ _ _ _ _ _ _ 100 W3 S3.out.oldX (S3.out.g 0 rfl) (S3.out.g 1 rfl) (S3.out.g 2 rfl) (S3.out.g 3 rfl) HK.out (by decide) hl).mono ?_
    obtain⟨m,hm⟩ : ∃m,m=closeN k (a:Int) 8:=⟨_,rfl⟩
    rw[←hm]
    have HG:=Lib.hid (gone_k HK.out hl hm)
    clear hm hl
    obtain⟨ka,hka⟩ : ∃ka,ka=killK m (a:Int):=⟨_,rfl⟩
    rw[←hka]at HG ⊢
    clear hka
    have HKA:Hid (KSt 100 ka):=Lib.hid HG.out.1
    rintro e W4 ⟨ao4,co4,ad4,cd4,af4,cf4,ap4,cp4,rfl,hd,ht,hp,hb⟩
    have S4:=Lib.hid ((((S3.out.call hb).more (DiskX.firm _ _) hd).more (TabX.firm _ _ _) ht).more (PsX.firm _ _) hp)
    clear hd ht hp hb h_k S3
    go_upto_region 4 with(first | (refine wpList_fresh1 ?_;intro W5 hb hn hs;have S5:=Lib.hid (S4.out.new1 hb hn);have h_a:=S5.out.at 2 rfl;clear hb hn hs) | (refine wpList_store_row rfl 31 _ _ rfl _ rfl rfl h_a rfl (by kernel_rfl) rfl ?_;intro W6 hb hg hs hn;have S6:=Lib.hid (S5.out.set 2 rfl hb hg hs hn);clear hb hg hs hn))
    clear h_a S4 S5
    obtain⟨ba,hba⟩ : ∃ba,ba=W4.heap.size:=⟨_,rfl⟩
    rw[←hba]at S6 ⊢
    clear hba
    go_upto_region 6 with(fail)
    have h_a:=(S6.out.at 2 rfl)
    have h_c:=(S6.out.at 1 rfl)
    go_wp2_with (first | (refine wpList_load_row rfl 31 _ rfl _ rfl 31 _ (0,0) _ h_a Tryz.underlying31 rfl (by kernel_rfl) ?_) | (refine wpList_load_row rfl 33 _ rfl _ rfl 33 _ (0,0) _ h_c Tryz.underlying33 rfl (by kernel_rfl) ?_))
    refine(pDo_dead _ S ka (a:Int) c _ _ _ _ _ _ _ _ W6 S6.out.oldX (S6.out.g 4 rfl) (S6.out.g 5 rfl) (S6.out.g 6 rfl) (S6.out.g 3 rfl) HG.out.2.1).mono ?_
    rw[show doK ka (a:Int) c=(ka,errR 1)from doDead HG.out.2.1]
    rintro e W7 ⟨ao7,co7,ad7,cd7,af7,cf7,ap7,cp7,ar7,cr7,rfl,hd,ht,hp,_,hb⟩
    have S7:=Lib.hid ((((S6.out.call hb).more (DiskX.firm _ _) hd).more (TabX.firm _ _ _) ht).more (PsX.firm _ _) hp)
    clear hd ht hp hb h_a h_c S6
    go_upto_region 7 with(first | (refine wpList_fresh1 ?_;intro W8 hb hn hs;have S8:=Lib.hid (S7.out.new1 hb hn);have h_b:=S8.out.at 3 rfl;clear hb hn hs) | (refine wpList_fresh1 ?_;intro W9 hb hn hs;have S9:=Lib.hid (S8.out.new1 hb hn);clear h_b;have h_b:=S9.out.at 3 rfl;have h_r:=S9.out.at 4 rfl;clear hb hn hs) | (refine wpList_store_row rfl 31 _ _ rfl _ rfl rfl h_b rfl (by kernel_rfl) rfl ?_;intro W10 hb hg hs hn;have S10:=Lib.hid (S9.out.set 3 rfl hb hg hs hn);clear hb hg hs hn;clear h_b h_r;have h_r:=S10.out.at 4 rfl) | (refine wpList_store_row rfl 54 _ _ rfl _ rfl rfl h_r rfl (by kernel_rfl) rfl ?_;intro W11 hb hg hs hn;have S11:=Lib.hid (S10.out.set 4 rfl hb hg hs hn);clear hb hg hs hn))
    clear h_r
    (try clear S7);(try clear S8);(try clear S9);(try clear S10)
    obtain⟨bb,hbb⟩ : ∃bb,bb=W7.heap.size:=⟨_,rfl⟩
    rw[←hbb]at S11 ⊢
    clear hbb
    obtain⟨br,hbr⟩ : ∃br,br=W8.heap.size:=⟨_,rfl⟩
    rw[←hbr]at S11 ⊢
    clear hbr
    refine wp_region_held_drew (S:=fun W=>W.heap[ba]? = some (.cells #[.slice ao4 ka.l.length co4, .int .i64 ka.most, .int .i64 ka.room, .slice ad4 ka.t.ds.length cd4, .slice af4 ka.t.fs.length cf4, .slice ap4 ka.ps.length cp4] 31 (0,0))∧W.heap[bb]? = some (.cells #[.slice ao7 ka.l.length co7, .int .i64 ka.most, .int .i64 ka.room, .slice ad7 ka.t.ds.length cd7, .slice af7 ka.t.fs.length cf7, .slice ap7 ka.ps.length cp7] 31 (0,0))∧W.heap[br]? = some (.cells #[.int .i64 1, .int .i64 0, .string (bs []), .slice ar7 (errR 1).ls.length cr7, .int .i64 0, .int .i64 0, .int .i64 0, .int .i64 0, .int .i64 0, .int .i64 0] 54 (0,0))∧True) (by kernel_rfl) ⟨(S11.out.at 2 rfl),(S11.out.at 3 rfl),(S11.out.at 4 rfl),trivial⟩ (fun hHeld=> ?_)
    have S12:=Lib.hid (S11.out.call (Below.refl W11.heap.size W11).drew)
    clear S11
    generalize W11.drew=W12 at *
    refine wpAnyH_take (i:=0) (v:= ?v2) rfl (by kernel_rfl) (by kernel_rfl) (by kernel_rfl) (fun _ _ _ h=>h) (Or.inl ⟨by rfl,?hy2⟩) hHeld ?rest2
    case hy2=>(intro w hSw;(try dsimp only at hSw);(try go_split_ands);go_simp;first | done | with_reducible rfl)
    (try simp only[List.getElem_toArray,List.getElem_cons_zero,Act.put,List.setIfInBounds_toArray,List.set_cons_succ,List.set_cons_zero])
    refine wpAnyH_take (i:=1) (v:= ?v3) rfl (by kernel_rfl) (by kernel_rfl) (by kernel_rfl) (fun _ _ _ h=>h) (Or.inl ⟨by rfl,?hy3⟩) hHeld ?rest3
    case hy3=>(intro w hSw;(try dsimp only at hSw);have hcc:=(cells10 hSw.2.2.1).1;(try go_split_ands);go_simp;first | done | with_reducible rfl)
    (try simp only[List.getElem_toArray,List.getElem_cons_succ,List.getElem_cons_zero,Act.put,List.setIfInBounds_toArray,List.set_cons_succ,List.set_cons_zero])
    refine wpAnyH_take (i:=2) (v:= ?v4) rfl (by kernel_rfl) (by kernel_rfl) (by kernel_rfl) (fun _ _ _ h=>h) (Or.inl ⟨by rfl,?hy4⟩) hHeld ?rest4
    case hy4=>(intro w hSw;(try dsimp only at hSw);(try go_split_ands);go_simp;first | done | with_reducible rfl)
    (try simp only[List.getElem_toArray,List.getElem_cons_succ,List.getElem_cons_zero,Act.put,List.setIfInBounds_toArray,List.set_cons_succ,List.set_cons_zero])
    refine wpAnyH_take (i:=3) (v:= ?v5) rfl (by kernel_rfl) (by kernel_rfl) (by kernel_rfl) (fun _ _ _ h=>h) (Or.inl ⟨by rfl,?hy5⟩) hHeld ?rest5
    case hy5=>(intro w hSw;(try dsimp only at hSw);(try go_split_ands);go_simp;first | done | with_reducible rfl)
    (try simp only[List.getElem_toArray,List.getElem_cons_succ,List.getElem_cons_zero,Act.put,List.setIfInBounds_toArray,List.set_cons_succ,List.set_cons_zero])
    refine wpAnyH_take (i:=4) rfl (by kernel_rfl) (by kernel_rfl) (by kernel_rfl) (fun _ _ _ h=>h) (yieldsIf_load_row (by rfl) 31 _ rfl _ rfl 31 _ (0,0) _ (fun _ h=>h.2.1) Tryz.underlying31 rfl (by kernel_rfl)) hHeld ?_
    (try simp only[List.getElem_toArray,List.getElem_cons_succ,List.getElem_cons_zero,Act.put,List.setIfInBounds_toArray,List.set_cons_succ,List.set_cons_zero])
    refine wpAnyH_take (i:=6) rfl (by kernel_rfl) (by kernel_rfl) (by kernel_rfl) (fun _ _ _ h=>h) (yieldsIf_load_row (by rfl) 31 _ rfl _ rfl 31 _ (0,0) _ (fun _ h=>h.1) Tryz.underlying31 rfl (by kernel_rfl)) hHeld ?_
    (try simp only[List.getElem_toArray,List.getElem_cons_succ,List.getElem_cons_zero,Act.put,List.setIfInBounds_toArray,List.set_cons_succ,List.set_cons_zero])
    refine wpAnyH_ready (rs:= [5]) (by kernel_rfl) (by simp) ?_
    refine AllReadyH.cons rfl (fun K hK=> ?_) AllReadyH.nil
    go_simp
    refine(kern_c _ ka _ _ _ _ _ _ _ _ W12 S12.out.oldX (S12.out.g 7 rfl) (S12.out.g 8 rfl) (S12.out.g 9 rfl) (Nat.le_trans HKA.out.small.1 (by decide)) (names_small HKA.out.small) HKA.out.tab8 (Nat.le_trans HKA.out.rig.procs (by decide))).mono ?_
    rintro e W13 ⟨ao13,co13,ad13,cd13,ap13,cp13,rfl,hD,hT,hP,hb⟩
    have S13:=Lib.hid ((((S12.out.call hb).more (DiskX.firm _ _) hD).more (TabX.firm _ _ _) hT).more (PsX.firm _ _) hP)
    clear hb hHeld hD hT hP S12
    go_wp2_with fail
    refine hK.out _ _ ⟨(S13.out.at 2 rfl),(S13.out.at 3 rfl),(S13.out.at 4 rfl),trivial⟩ (fun hHeld=> ?_)
    clear hK K
    (try simp only[List.getElem_toArray,List.getElem_cons_succ,List.getElem_cons_zero,Act.put,List.setIfInBounds_toArray,List.set_cons_succ,List.set_cons_zero])
    refine wpAnyH_ready (rs:= [7]) (by kernel_rfl) (by simp) ?_
    refine AllReadyH.cons rfl (fun K hK=> ?_) AllReadyH.nil
    go_simp
    refine(kern_c _ ka _ _ _ _ _ _ _ _ W13 S13.out.oldX (S13.out.g 4 rfl) (S13.out.g 5 rfl) (S13.out.g 6 rfl) (Nat.le_trans HKA.out.small.1 (by decide)) (names_small HKA.out.small) HKA.out.tab8 (Nat.le_trans HKA.out.rig.procs (by decide))).mono ?_
    rintro e W14 ⟨ao14,co14,ad14,cd14,ap14,cp14,rfl,hD,hT,hP,hb⟩
    have S14:=Lib.hid ((((S13.out.call hb).more (DiskX.firm _ _) hD).more (TabX.firm _ _ _) hT).more (PsX.firm _ _) hP)
    clear hb hHeld hD hT hP S13
    go_wp2_with fail
    refine hK.out _ _ ⟨(S14.out.at 2 rfl),(S14.out.at 3 rfl),(S14.out.at 4 rfl),trivial⟩ (fun hHeld=> ?_)
    clear hK K
    (try simp only[List.getElem_toArray,List.getElem_cons_succ,List.getElem_cons_zero,Act.put,List.setIfInBounds_toArray,List.set_cons_succ,List.set_cons_zero])
    refine wpAnyH_ready (rs:= [8]) (by kernel_rfl) (by simp) ?_
    refine AllReadyH.cons rfl (fun K hK=> ?_) AllReadyH.nil
    go_simp
    refine(rsameK_c ka _ _ _ _ _ _ _ _ _ _ _ _ _ _ _ _ W14 (S14.out.g 10 rfl) (S14.out.g 11 rfl) (S14.out.g 12 rfl) (S14.out.g 13 rfl) (S14.out.g 14 rfl) (S14.out.g 15 rfl) (Nat.le_trans HKA.out.small.1 (by decide)) (names_small HKA.out.small) HKA.out.tab8 (Nat.le_trans HKA.out.rig.procs (by decide))).mono ?_
    rintro e W15 ⟨rfl,hb⟩
    have S15:=Lib.hid (S14.out.call hb)
    clear hb hHeld S14
    go_wp2_with fail
    refine hK.out _ _ ⟨(S15.out.at 2 rfl),(S15.out.at 3 rfl),(S15.out.at 4 rfl),trivial⟩ (fun hHeld=> ?_)
    clear hK K
    (try simp only[List.getElem_toArray,List.getElem_cons_succ,List.getElem_cons_zero,Act.put,List.setIfInBounds_toArray,List.set_cons_succ,List.set_cons_zero])
    refine wpAnyH_take (i:=9) (v:= ?v6) rfl (by kernel_rfl) (by kernel_rfl) (by kernel_rfl) (fun _ _ _ h=>h) (Or.inl ⟨by rfl,?hy6⟩) hHeld ?rest6
    case hy6=>(intro w hSw;(try dsimp only at hSw);(try go_split_ands);go_simp;first | done | with_reducible rfl)
    (try simp only[List.getElem_toArray,List.getElem_cons_succ,List.getElem_cons_zero,Act.put,List.setIfInBounds_toArray,List.set_cons_succ,List.set_cons_zero])
    refine wpAnyH_take (i:=10) (v:= ?v7) rfl (by kernel_rfl) (by kernel_rfl) (by kernel_rfl) (fun _ _ _ h=>h) (Or.inl ⟨by rfl,?hy7⟩) hHeld ?rest7
    case hy7=>(intro w hSw;(try dsimp only at hSw);(try go_split_ands);go_simp;first | done | with_reducible rfl)
    (try simp only[List.getElem_toArray,List.getElem_cons_succ,List.getElem_cons_zero,Act.put,List.setIfInBounds_toArray,List.set_cons_succ,List.set_cons_zero])
    refine wpAnyH_take (i:=11) (v:= ?v8) rfl (by kernel_rfl) (by kernel_rfl) (by kernel_rfl) (fun _ _ _ h=>h) (Or.inl ⟨by rfl,?hy8⟩) hHeld ?rest8
    case hy8=>(intro w hSw;(try dsimp only at hSw);(try go_split_ands);go_simp;first | done | with_reducible rfl)
    (try simp only[List.getElem_toArray,List.getElem_cons_succ,List.getElem_cons_zero,Act.put,List.setIfInBounds_toArray,List.set_cons_succ,List.set_cons_zero])
    refine wpAnyH_take (i:=12) (v:= ?v9) rfl (by kernel_rfl) (by kernel_rfl) (by kernel_rfl) (fun _ _ _ h=>h) (Or.inl ⟨by rfl,?hy9⟩) hHeld ?rest9
    case hy9=>(intro w hSw;(try dsimp only at hSw);(try go_split_ands);go_simp;first | done | with_reducible rfl)
    (try simp only[List.getElem_toArray,List.getElem_cons_succ,List.getElem_cons_zero,Act.put,List.setIfInBounds_toArray,List.set_cons_succ,List.set_cons_zero])
    refine wpAnyH_take (i:=13) (v:= ?v10) rfl (by kernel_rfl) (by kernel_rfl) (by kernel_rfl) (fun _ _ _ h=>h) (Or.inl ⟨by rfl,?hy10⟩) hHeld ?rest10
    case hy10=>(intro w hSw;(try dsimp only at hSw);obtain⟨-, -, -,hc3,hc4, -⟩:=cells6 hSw.1;(try go_split_ands);go_simp;first | done | with_reducible rfl)
    (try simp only[List.getElem_toArray,List.getElem_cons_succ,List.getElem_cons_zero,Act.put,List.setIfInBounds_toArray,List.set_cons_succ,List.set_cons_zero])
    refine wpAnyH_take (i:=14) (v:= ?v11) rfl (by kernel_rfl) (by kernel_rfl) (by kernel_rfl) (fun _ _ _ h=>h) (Or.inl ⟨by rfl,?hy11⟩) hHeld ?rest11
    case hy11=>(intro w hSw;(try dsimp only at hSw);(try go_split_ands);go_simp;first | done | with_reducible rfl)
    (try simp only[List.getElem_toArray,List.getElem_cons_succ,List.getElem_cons_zero,Act.put,List.setIfInBounds_toArray,List.set_cons_succ,List.set_cons_zero])
    refine wpAnyH_ready (rs:= [15]) (by kernel_rfl) (by simp) ?_
    refine AllReadyH.cons rfl (fun K hK=> ?_) AllReadyH.nil
    go_simp
    refine(pcount_c ka.t _ _ _ _ W15 (S15.out.g 5 rfl) (a:Int) HKA.out.tab8 HKA.out.rig.tab).mono ?_
    rw[HG.out.2.2.1]
    rintro e W16 ⟨rfl,hb⟩
    have S16:=Lib.hid (S15.out.call hb)
    clear hb hHeld S15
    go_wp2_with fail
    refine hK.out _ _ ⟨(S16.out.at 2 rfl),(S16.out.at 3 rfl),(S16.out.at 4 rfl),trivial⟩ (fun hHeld=> ?_)
    clear hK K
    (try simp only[List.getElem_toArray,List.getElem_cons_succ,List.getElem_cons_zero,Act.put,List.setIfInBounds_toArray,List.set_cons_succ,List.set_cons_zero])
    refine wpAnyH_take (i:=16) (v:= ?v12) rfl (by kernel_rfl) (by kernel_rfl) (by kernel_rfl) (fun _ _ _ h=>h) (Or.inl ⟨by rfl,?hy12⟩) hHeld ?rest12
    case hy12=>(intro w hSw;(try dsimp only at hSw);(try go_split_ands);go_simp;first | done | with_reducible rfl)
    (try simp only[List.getElem_toArray,List.getElem_cons_succ,List.getElem_cons_zero,Act.put,List.setIfInBounds_toArray,List.set_cons_succ,List.set_cons_zero])
    refine wpAnyH_take (i:=17) (v:= ?v13) rfl (by kernel_rfl) (by kernel_rfl) (by kernel_rfl) (fun _ _ _ h=>h) (Or.inl ⟨by rfl,?hy13⟩) hHeld ?rest13
    case hy13=>(intro w hSw;(try dsimp only at hSw);(try go_split_ands);go_simp;first | done | with_reducible rfl)
    (try simp only[List.getElem_toArray,List.getElem_cons_succ,List.getElem_cons_zero,Act.put,List.setIfInBounds_toArray,List.set_cons_succ,List.set_cons_zero])
    refine wpAnyH_done (by kernel_rfl) ?_ _
    have HDL:Hid (k.t.ds.length≤1000):=Lib.hid HK.out.tab8.1
    go_wp2_with fail
    obtain⟨-, -, -,c3,c4, -⟩:=cells6 (S16.out.at 0 rfl)
    obtain⟨-, -, -,d3, -, -⟩:=cells6 (S16.out.at 2 rfl)
    go_loop [11] (fun i=>∃n:Nat,i = .int .i64 n∧n≤k.t.ds.length) (fun i=>k.t.ds.length-(RowKit.intOf i).toNat)
    case atStart=>exact⟨0,rfl,Nat.zero_le _⟩
    case round =>
      obtain⟨n,rfl,hn⟩:=hrel
      by_cases hlt:n<k.t.ds.length
      · have i1:decide (n<k.t.ds.length)=true:=decide_eq_true hlt
        have i2:decide ((n:Int)<(k.t.ds.length:Int))=true:=decide_eq_true (by omega)
        have wn:IntKind.i64.wrap ((n:Int)+1)=(n:Int)+1:=Go.IntWalk.i64_in _ (by have:=HDL.out;omega)
        go_wp2_with fail
        go_loop [12,13] (fun o i=>∃q:Nat,i = .int .i64 q∧q≤k.t.fs.length∧Hid (o = .int .i64 ((othS k.t.fs (a:Int) (n:Int) q:Nat):Int))) (fun _ i=>k.t.fs.length-(RowKit.intOf i).toNat)
        case atStart=>exact⟨0,rfl,Nat.zero_le _,Lib.hid (by simp[othS])⟩
        case round =>
          obtain⟨q,rfl,hq,HO⟩:=hrel
          obtain rfl:=HO.out
          by_cases hq8:q<k.t.fs.length
          · have j1:decide (q<k.t.fs.length)=true:=decide_eq_true hq8
            have j2:decide ((q:Int)<(k.t.fs.length:Int))=true:=decide_eq_true (by omega)
            have wq:IntKind.i64.wrap ((q:Int)+1)=(q:Int)+1:=Go.IntWalk.i64_in _ (by have:=HG.out.2.2.2.2.1;omega)
            obtain⟨s,hs⟩ : ∃s,s=othS k.t.fs (a:Int) (n:Int) q:=⟨_,rfl⟩
            have HS:=Lib.hid hs
            rw[←hs]
            have hs8:s≤64:=by rw[hs];exact Nat.le_trans (oth_le (fun r hr=>Nat.le_of_eq (HK.out.rig.tab.1 r hr).1) _ _ _) (by have:=HG.out.2.2.2.2.1;omega)
            clear hs HO
            obtain⟨r,hr⟩ : ∃r,r=k.t.fs[q]:=⟨_,rfl⟩
            have hr8:r.length=8:=by rw[hr];exact HK.out.rig.row hq8
            have HR8:=Lib.hid hr8
            have HRR:=Lib.hid hr
            clear hr hr8
            go_wp2_with fail
            go_loop [12,14] (fun o i=>∃f:Nat,i = .int .i64 f∧f≤8∧Hid (o = .int .i64 ((s+(if(q:Int)=(a:Int)then 0 else(r.take f).count (n:Int)):Nat):Int))) (fun _ i=>8-(RowKit.intOf i).toNat)
            case atStart=>exact⟨0,rfl,by decide,Lib.hid (by simp)⟩
            case round =>
              obtain⟨f,rfl,hf,HF⟩:=hrel
              obtain rfl:=HF.out
              by_cases hf8:f<8
              · have m1:decide (f<8)=true:=decide_eq_true hf8
                have m2:decide ((f:Int)<8)=true:=decide_eq_true (by omega)
                have wf:IntKind.i64.wrap ((f:Int)+1)=(f:Int)+1:=Go.IntWalk.i64_in _ (by omega)
                by_cases hqa:(q:Int)=(a:Int)
                · have n1:((q:Int) != (a:Int))=false:=by simpa using hqa
                  have n2:decide ((q:Int)=(a:Int))=true:=decide_eq_true hqa
                  have n3:((q:Int) == (a:Int))=true:=by simpa using hqa
                  rw[if_pos hqa]
                  have HQA:=Lib.hid hqa
                  clear hqa HF
                  go_wp2_with fail
                  go_round
                  case rel=>exact⟨f+1,by go_num,hf8,Lib.hid (by rw[if_pos HQA.out])⟩
                  case measure=>simp[RowKit.intOf];omega
                · have n1:((q:Int) != (a:Int))=true:=by simpa using hqa
                  have n2:decide ((q:Int)=(a:Int))=false:=decide_eq_false hqa
                  have n3:((q:Int) == (a:Int))=false:=by simpa using hqa
                  rw[if_neg hqa]
                  have HQA:=Lib.hid hqa
                  clear hqa HF
                  obtain⟨x,hx⟩ : ∃x,x=(r.take f).count (n:Int):=⟨_,rfl⟩
                  have hx8:x≤8:=by rw[hx];exact Nat.le_trans List.count_le_length (by rw[List.length_take];omega)
                  rw[←hx]
                  have HX:=Lib.hid hx
                  clear hx
                  obtain⟨b1,off1,ar,cr,eaf, -,cR,hR⟩:=TabX.row (S16.out.g 1 rfl) q hq8
                  subst eaf
                  rw[←HRR.out]at cR hR
                  have hfr:f<r.length:=by have:=HR8.out;omega
                  obtain⟨b3,off3,ear,cI⟩:=RdX.int hR f hfr
                  subst ear
                  obtain⟨v,hv⟩ : ∃v,v=r[f]:=⟨_,rfl⟩
                  rw[←hv]at cI
                  have k0:(0:Int)≤(f:Int):=by omega
                  have k1:(f:Int)<(r.length:Int):=by omega
                  have p0:(0:Int)≤(q:Int):=by omega
                  have p1:(q:Int)<(k.t.fs.length:Int):=by omega
                  have hcnt:(r.take (f+1)).count (n:Int)=x+if v=(n:Int)then 1 else 0:=by
                    rw[List.take_add_one,List.getElem?_eq_getElem hfr,Option.toList_some,List.count_append,←HX.out,←hv,List.count_singleton]
                    by_cases h:v=(n:Int)<;>simp[h]
                  have HC:=Lib.hid hcnt
                  clear hcnt hv hR
                  by_cases hvn:v=(n:Int)
                  · have v1:(v == (n:Int))=true:=by simpa using hvn
                    have v2:decide (v=(n:Int))=true:=decide_eq_true hvn
                    have HV:=Lib.hid hvn
                    have wx:IntKind.i64.wrap (((s+x:Nat):Int)+1)=((s+(x+1):Nat):Int):=by rw[Go.IntWalk.i64_in _ (by omega)];omega
                    have wy:IntKind.i64.wrap ((s:Int)+(x:Int)+1)=((s+(x+1):Nat):Int):=by rw[Go.IntWalk.i64_in _ (by omega)];omega
                    clear hvn
                    go_wp2_with fail
                    go_round
                    case rel=>exact⟨f+1,by go_num,hf8,Lib.hid (by rw[if_neg HQA.out,HC.out,if_pos HV.out];first | rfl | (congr 1;omega))⟩
                    case measure=>simp[RowKit.intOf];omega
                  · have v1:(v == (n:Int))=false:=by simpa using hvn
                    have v2:decide (v=(n:Int))=false:=decide_eq_false hvn
                    have HV:=Lib.hid hvn
                    clear hvn
                    go_wp2_with fail
                    go_round
                    case rel=>exact⟨f+1,by go_num,hf8,Lib.hid (by rw[if_neg HQA.out,HC.out,if_neg HV.out];rfl)⟩
                    case measure=>simp[RowKit.intOf];omega
              · have m1:decide (f<8)=false:=decide_eq_false hf8
                have m2:decide ((f:Int)<8)=false:=decide_eq_false (by omega)
                have hfe:f=8:=by omega
                have HOT:Hid (s+(if(q:Int)=(a:Int)then 0 else(r.take f).count (n:Int))=othS k.t.fs (a:Int) (n:Int) (q+1)):=Lib.hid (by
                  rw[othS_succ,←HS.out,hfe,List.take_of_length_le (Nat.le_of_eq HR8.out),HRR.out,List.getD_eq_getElem?_getD,List.getElem?_eq_getElem hq8];rfl)
                rw[HOT.out]
                clear hfe HF
                go_wp2_with fail
                go_round
                case rel=>exact⟨q+1,by go_num,hq8,Lib.hid rfl⟩
                case measure=>simp[RowKit.intOf];omega
          · have j1:decide (q<k.t.fs.length)=false:=decide_eq_false hq8
            have j2:decide ((q:Int)<(k.t.fs.length:Int))=false:=decide_eq_false (by omega)
            have hqe:q=8:=by have:=HG.out.2.2.2.2.1;omega
            have hna:n<ka.t.ds.length:=by rw[HG.out.2.2.2.1];exact hlt
            have g1:decide (ka.t.ds.length≤n)=false:=decide_eq_false (by omega)
            have g2:decide ((ka.t.ds.length:Int)≤(n:Int))=false:=decide_eq_false (by omega)
            have q0:(0:Int)≤(n:Int):=by omega
            have q1:(n:Int)<(ka.t.ds.length:Int):=by omega
            obtain⟨b1,off1,ead,e0,e1,e2,e3,e4,e5⟩:=TabX.desc (S16.out.g 5 rfl) n hna
            subst ead
            have hGD:=HG.out.2.2.2.2.2.2 n hna
            rw[show othS k.t.fs (a:Int) (n:Int) q=othS k.t.fs (a:Int) (n:Int) 8 from by rw[hqe]]
            obtain⟨y,hy⟩ : ∃y,y=ka.t.ds[n]:=⟨_,rfl⟩
            rw[←hy]at e0 e1 e2 e3 e4 e5 hGD
            clear hy hqe HO
            obtain⟨s,hs⟩ : ∃s,s=othS k.t.fs (a:Int) (n:Int) 8:=⟨_,rfl⟩
            rw[←hs]at hGD ⊢
            clear hs
            rw[hGD.1]at e4
            have r1:((s:Int) != (s:Int))=false:=by simp
            have r2:decide ((s:Int)=(s:Int))=true:=by simp
            have r3:((s:Int) == (s:Int))=true:=by simp
            by_cases hs0:s=0
            · have hy0:=hGD.2 hs0
              subst hs0
              subst hy0
              clear hGD
              have hgd:=eqDescGG
              have heq : ∀w,(Op.equalIn 10000 60 (.agg #[.int .i64 0, .int .i64 0, .bool false, .bool false, .int .i64 0, .int .i64 0]) (.agg #[.int .i64 0, .int .i64 0, .bool false, .bool false, .int .i64 0, .int .i64 0])).run Tryz.prog w = .ok true w:=fun w=>(eqDescG zeroD zeroD w).trans (by simp)
              replace e0:W16.cell? ⟨b1,off1+n*6,none⟩=some (.int .i64 0):=e0
              replace e1:W16.cell? ⟨b1,off1+n*6+1,none⟩=some (.int .i64 0):=e1
              replace e2:W16.cell? ⟨b1,off1+n*6+2,none⟩=some (.bool false):=e2
              replace e3:W16.cell? ⟨b1,off1+n*6+3,none⟩=some (.bool false):=e3
              replace e4:W16.cell? ⟨b1,off1+n*6+4,none⟩=some (.int .i64 0):=e4
              replace e5:W16.cell? ⟨b1,off1+n*6+5,none⟩=some (.int .i64 0):=e5
              clear r1 r2 r3
              go_wp2_with fail
              go_round
              case rel=>exact⟨n+1,by go_num,hlt⟩
              case measure=>simp[RowKit.intOf];omega
            · clear hGD
              have z1:((s:Int) == 0)=false:=by simpa using hs0
              have z2:decide ((s:Int)=0)=false:=decide_eq_false (by omega)
              have z3:decide (s=0)=false:=decide_eq_false hs0
              clear hs0
              go_wp2_with fail
              go_round
              case rel=>exact⟨n+1,by go_num,hlt⟩
              case measure=>simp[RowKit.intOf];omega
      · have i1:decide (n<k.t.ds.length)=false:=decide_eq_false hlt
        have i2:decide ((n:Int)<(k.t.ds.length:Int))=false:=decide_eq_false (by omega)
        clear hlt
        go_wp2_with fail
        go_ret
        exact⟨by first | rfl | simp,S16.out.bel⟩
end Go.Proofs.YtpbmbpefophlfaaGreatDoor
