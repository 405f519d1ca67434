import Derived.Test.YtgbmmcnadmfikaaGreatDoorR31
import Derived.Test.YtgbmmcnadmfikaaGreatDoorR25
import Derived.Test.YtgbmmcnadmfikaaGreatDoorShelf
import Derived.Deep.RegionHeld3
import Derived.Deep.DeepCutAuto
import Derived.Lib.ItoaLen
import Derived.Lib.AppendIntMem
namespace Go.Proofs.YtgbmmcnadmfikaaGreatDoor
open Go.RowKit Go.Shelf
attribute [local go_sem ↓] Go.wp_at_zero Go.wp_at_succ
theorem has_in {t:TabL}{p fd:Int}(h:inT t p=false):hasT t p fd=false:=by unfold hasT;rw[h];rfl
theorem inD_no {t:TabL}{v:Int}(h:v<0):inD t v=false:=by unfold inD;rw[decide_eq_false (show ¬0≤v by omega)];rfl
theorem inD_yes {t:TabL}{i:Nat}(h:i<t.ds.length):inD t (i:Int)=true:=by unfold inD;rw[decide_eq_true (show(0:Int)≤(i:Int)by omega),decide_eq_true (show(i:Int)<(t.ds.length:Int)by omega)];rfl
set_option maxRecDepth 100000 in
set_option maxHeartbeats 4000000 in
theorem pgetH_c {X:Nat→Prop}(t:TabL)(ad af:Option Addr)(cap capf:Nat)(w:World)(hT:TabX t (.slice ad t.ds.length cap) (.slice af t.fs.length capf) X w)(p fd:Int)(hr:RightT t) :
 Calls Tryz.prog 157 #[tabV ad t.ds.length cap af t.fs.length capf, .int .i64 p, .int .i64 fd] w fun e w'=>GotIs t p fd e∧Below w.heap.size w w':=by
 have S0:=Lib.hid (Sf.start (w:=w) (X:=fun _=>False) (G:= [TabX t (.slice ad t.ds.length cap) (.slice af t.fs.length capf)]) (fun _ h=>h.elim) (th1 (TabX.firm _ _ _) ((TabX.firm _ _ _).sub hT fun _ h=>h.elim)))
 have HRET:Hid (∀(W:World) (cs:Array Value) (fr),W.heap[w.heap.size+1]? = some (.cells cs 63 fr)→cs.size=6→∀tmps:Array Value,tmps.getD 7 undef = .pointer (some ⟨w.heap.size+1,0,none⟩)→(results Tryz.f157 tmps).run Tryz.prog W = .ok (.tuple #[tmps.getD 6 undef, .agg cs,tmps.getD 8 undef]) W):=Lib.hid fun W cs fr h hs tmps ht =>
 results_tct (p:=7) (u:=6) (v:=8) (ty:=63) rfl tmps W (w.heap.size+1) _ cs fr _ ht h Tryz.underlying63 rfl (by rw[hs];kernel_rfl)
 have HRR:=Lib.hid hr;clear hT hr;go_enter Tryz.func157,Tryz.ntmps157;go_upto_region 1 with(fail);refine code_fresh2 ?_;intro W1 hb hA0 hA1 hs;have S1:=Lib.hid (S0.out.new2 hb hA0 hA1);clear hb hA0 hA1 hs;have h_d:=(S1.out.at 0 rfl);go_wp2_with (first | (refine wpList_load_row rfl 28 _ rfl _ rfl 28 _ (0,0) _ h_d Tryz.underlying28 rfl (by kernel_rfl) ?_));refine(phas_c t _ _ _ _ _ (S1.out.g 0 rfl) p).mono ?_;rintro e W2 ⟨rfl,hb⟩;clear h_d;have S2:=Lib.hid (S1.out.call hb);clear hb
 cases hin:inT t p with
 | false =>
    have hin2:=hin;clear hin;have HZ:=Lib.hid (has_in (fd:=fd) hin2);obtain⟨d0,d1⟩:=cells2 (S2.out.at 0 rfl);go_upto_region 2 with(fail);clear d0 d1;have h_r:=(S2.out.at 1 rfl);go_wp2_with (first | (refine wpList_store_row rfl 63 _ _ rfl _ rfl rfl h_r rfl (by kernel_rfl) rfl ?_;intro W3 hb hg hs hn;have S3:=Lib.hid (S2.out.set 1 rfl hb hg hs hn);clear hb hg hs hn));refine bodyPost_ret (HRET.out _ _ _ (S3.out.at 1 rfl) rfl _ rfl) rfl ?_;exact⟨got_no HZ.out,S3.out.bel⟩
 | true =>
    obtain⟨a,rfl,ha⟩:=in_T hin;clear hin;(have a0:(0:Int)≤(a:Int):=by omega);(have a1:(a:Int)<(t.fs.length:Int):=by omega);by_cases h3:fd<0
    · have i3:decide (fd<0)=true:=decide_eq_true h3
      have HZ:=Lib.hid (has_no3 (t:=t) (p:=(a:Int)) h3);obtain⟨d0,d1⟩:=cells2 (S2.out.at 0 rfl);go_upto_region 2 with(fail);clear d0 d1;have h_r:=(S2.out.at 1 rfl);go_wp2_with (first | (refine wpList_store_row rfl 63 _ _ rfl _ rfl rfl h_r rfl (by kernel_rfl) rfl ?_;intro W3 hb hg hs hn;have S3:=Lib.hid (S2.out.set 1 rfl hb hg hs hn);clear hb hg hs hn));refine bodyPost_ret (HRET.out _ _ _ (S3.out.at 1 rfl) rfl _ rfl) rfl ?_;exact⟨got_no HZ.out,S3.out.bel⟩
    · have i3:decide (fd<0)=false:=decide_eq_false h3
      obtain⟨m,rfl⟩:=Int.eq_ofNat_of_zero_le (show 0≤fd by omega);(have m0:(0:Int)≤(m:Int):=by omega);clear h3;obtain⟨b,off,ar,cr,eaf,_,cR,hR⟩:=TabX.row (S2.out.g 0 rfl) a ha;subst eaf;obtain⟨r,hrow⟩ : ∃r,r=t.fs[a]:=⟨_,rfl⟩;rw[←hrow]at cR hR;have HROW:=Lib.hid hrow;by_cases h4:(r.length:Int)≤(m:Int)
      · have i4:decide ((r.length:Int)≤(m:Int))=true:=decide_eq_true h4
        have i41:decide (r.length≤m)=true:=decide_eq_true (by omega);(have h4b:((t.fs[a]).length:Int)≤(m:Int):=by rw[←hrow];exact h4);clear hrow h4;have HZ:=Lib.hid (has_no4 ha h4b);obtain⟨d0,d1⟩:=cells2 (S2.out.at 0 rfl);go_upto_region 2 with(fail);clear d0 d1;have h_r:=(S2.out.at 1 rfl);go_wp2_with (first | (refine wpList_store_row rfl 63 _ _ rfl _ rfl rfl h_r rfl (by kernel_rfl) rfl ?_;intro W3 hb hg hs hn;have S3:=Lib.hid (S2.out.set 1 rfl hb hg hs hn);clear hb hg hs hn));refine bodyPost_ret (HRET.out _ _ _ (S3.out.at 1 rfl) rfl _ rfl) rfl ?_;exact⟨got_no HZ.out,S3.out.bel⟩
      · have i4:decide ((r.length:Int)≤(m:Int))=false:=decide_eq_false h4
        have i41:decide (r.length≤m)=false:=decide_eq_false (by omega);(have hm:m<r.length:=by omega);(have m1:(m:Int)<(r.length:Int):=by omega);obtain⟨b2,off2,ear,cI⟩:=RdX.int hR m hm;subst ear;obtain⟨v,hv⟩ : ∃v,v=r[m]:=⟨_,rfl⟩;rw[←hv]at cI;clear h4;(have hm2:m<(t.fs[a]).length:=by rw[←hrow];exact hm);(have hv2:v=(t.fs[a])[m]:=by rw[hv];exact getE_of hrow _ _);have HV2:=Lib.hid hv2;clear hrow hv hv2;obtain⟨d0,d1⟩:=cells2 (S2.out.at 0 rfl);go_upto_region 2 with(fail);clear d0 d1;have h_d:=(S2.out.at 0 rfl);go_wp2_with (first | (refine wpList_load_row rfl 28 _ rfl _ rfl 28 _ (0,0) _ h_d Tryz.underlying28 rfl (by kernel_rfl) ?_));refine(phasD_c t _ _ _ _ _ (S2.out.g 0 rfl) v).mono ?_;rintro e W3 ⟨rfl,hb⟩;clear h_d cR hR cI;have S3:=Lib.hid (S2.out.call hb);clear hb;by_cases h5:v<0
        · have hin:inD t v=false:=inD_no h5
          rw[hin];have HZ:=Lib.hid (has_no5 ha hm2 (by rw[←HV2.out];exact h5));obtain⟨d0,d1⟩:=cells2 (S3.out.at 0 rfl);go_upto_region 5 with(fail);clear d0 d1;have h_r:=(S3.out.at 1 rfl);go_wp2_with (first | (refine wpList_store_row rfl 63 _ _ rfl _ rfl rfl h_r rfl (by kernel_rfl) rfl ?_;intro W4 hb hg hs hn;have S4:=Lib.hid (S3.out.set 1 rfl hb hg hs hn);clear hb hg hs hn));refine bodyPost_ret (HRET.out _ _ _ (S4.out.at 1 rfl) rfl _ rfl) rfl ?_;exact⟨got_no HZ.out,S4.out.bel⟩
        · have HY:=Lib.hid (has_yes ha hm2 (by rw[←HV2.out];omega))
          (have hat:atR (rowT t (a:Int)) (m:Int)=v:=by rw[row_at ha,at_R hm2];exact HV2.out.symm);obtain⟨i,rfl⟩:=Int.eq_ofNat_of_zero_le (show 0≤v by omega);have HI:Hid (i<t.ds.length):=Lib.hid (by obtain⟨i2,e2,hi2,_⟩:=place_T HRR.out ha (show m<(rowT t (a:Int)).length by rw[row_at ha];exact hm2) (by rw[hat];omega);rw[hat]at e2;omega);obtain⟨HP1,HP2⟩:=found_at HY.out hat HI.out;have HP1:=Lib.hid HP1;have HP2:=Lib.hid HP2;clear h5 HV2 hat;have hin:inD t (i:Int)=true:=inD_yes HI.out;rw[hin];clear hin;obtain⟨b3,off3,ead,cD⟩:=TabX.range (S3.out.g 0 rfl) i HI.out;subst ead;(have q0:(0:Int)≤(i:Int):=by omega);(have q1:(i:Int)<(t.ds.length:Int):=by have:=HI.out;omega);obtain⟨x,hx⟩ : ∃x,x=t.ds[i]'HI.out:=⟨_,rfl⟩;rw[←hx]at cD;rw[←hx]at HP2;have HX:=Lib.hid hx;clear hx;go_upto_region 6 with(fail);refine wp_region_held_drew (S:=fun W=>W.cell? ⟨w.heap.size,0,none⟩=some (.slice (some ⟨b3,off3,none⟩) t.ds.length cap)∧W.rangeAt b3 (off3+i*6) (dcells x)∧True) (by kernel_rfl) ⟨(cells2 (S3.out.at 0 rfl)).1,cD,trivial⟩ (fun hHeld=> ?_);have S4:=Lib.hid (S3.out.call (Below.refl W3.heap.size W3).drew);generalize W3.drew=W4 at *;refine wpAnyH_take (i:=0) (v:= ?v1) rfl (by kernel_rfl) (by kernel_rfl) (by kernel_rfl) (fun _ _ _ h=>h) (Or.inl ⟨by rfl,?hy1⟩) hHeld ?rest1
          case hy1=>(intro w hSw;(try dsimp only at hSw);(try go_split_ands);go_simp;first | done | with_reducible rfl)
          (try simp only[List.getElem_toArray]);(try simp only[List.getElem_cons_succ]);(try simp only[List.getElem_cons_zero]);(try simp only[Act.put]);(try simp only[List.setIfInBounds_toArray]);(try simp only[List.set_cons_succ]);(try simp only[List.set_cons_zero]);refine wpAnyH_take (i:=1) (v:= ?v2) rfl (by kernel_rfl) (by kernel_rfl) (by kernel_rfl) (fun _ _ _ h=>h) (Or.inl ⟨by rfl,?hy2⟩) hHeld ?rest2
          case hy2=>(intro w hSw;(try dsimp only at hSw);(try go_split_ands);go_simp;first | done | with_reducible rfl)
          (try simp only[List.getElem_toArray]);(try simp only[List.getElem_cons_succ]);(try simp only[List.getElem_cons_zero]);(try simp only[Act.put]);(try simp only[List.setIfInBounds_toArray]);(try simp only[List.set_cons_succ]);(try simp only[List.set_cons_zero]);refine wpAnyH_take (i:=2) (v:= ?v3) rfl (by kernel_rfl) (by kernel_rfl) (by kernel_rfl) (fun _ _ _ h=>h) (Or.inl ⟨by rfl,?hy3⟩) hHeld ?rest3
          case hy3=>(intro w hSw;(try dsimp only at hSw);(try go_split_ands);go_simp;first | done | with_reducible rfl)
          (try simp only[List.getElem_toArray]);(try simp only[List.getElem_cons_succ]);(try simp only[List.getElem_cons_zero]);(try simp only[Act.put]);(try simp only[List.setIfInBounds_toArray]);(try simp only[List.set_cons_succ]);(try simp only[List.set_cons_zero]);refine wpAnyH_take (i:=3) (v:= ?v4) rfl (by kernel_rfl) (by kernel_rfl) (by kernel_rfl) (fun _ _ _ h=>h) (Or.inl ⟨by rfl,?hy4⟩) hHeld ?rest4
          case hy4=>(intro w hSw;(try dsimp only at hSw);(try go_split_ands);go_simp;first | done | with_reducible rfl)
          (try simp only[List.getElem_toArray]);(try simp only[List.getElem_cons_succ]);(try simp only[List.getElem_cons_zero]);(try simp only[Act.put]);(try simp only[List.setIfInBounds_toArray]);(try simp only[List.set_cons_succ]);(try simp only[List.set_cons_zero]);refine wpAnyH_take (i:=4) (v:= ?v5) rfl (by kernel_rfl) (by kernel_rfl) (by kernel_rfl) (fun _ _ _ h=>h) (Or.inl ⟨by rfl,?hy5⟩) hHeld ?rest5
          case hy5=>(intro w hSw;(try dsimp only at hSw);(try go_split_ands);go_simp;first | done | with_reducible rfl)
          (try simp only[List.getElem_toArray]);(try simp only[List.getElem_cons_succ]);(try simp only[List.getElem_cons_zero]);(try simp only[Act.put]);(try simp only[List.setIfInBounds_toArray]);(try simp only[List.set_cons_succ]);(try simp only[List.set_cons_zero]);refine wpAnyH_take (i:=5) rfl (by kernel_rfl) (by kernel_rfl) (by kernel_rfl) (fun _ _ _ h=>h) (yieldsIf_load_mid (by rfl) 63 _ rfl _ (off3+i*6) rfl _ _ (fun _ h=>h.2.1) Tryz.underlying63 rfl (by kernel_rfl)) hHeld ?_;(try simp only[List.getElem_toArray]);(try simp only[List.getElem_cons_succ]);(try simp only[List.getElem_cons_zero]);(try simp only[Act.put]);(try simp only[List.setIfInBounds_toArray]);(try simp only[List.set_cons_succ]);(try simp only[List.set_cons_zero]);refine wpAnyH_take (i:=6) (v:= ?v6) rfl (by kernel_rfl) (by kernel_rfl) (by kernel_rfl) (fun _ _ _ h=>h) (Or.inl ⟨by rfl,?hy6⟩) hHeld ?rest6
          case hy6=>(intro w hSw;(try dsimp only at hSw);(try go_split_ands);go_simp;first | done | with_reducible rfl)
          (try simp only[List.getElem_toArray]);(try simp only[List.getElem_cons_succ]);(try simp only[List.getElem_cons_zero]);(try simp only[Act.put]);(try simp only[List.setIfInBounds_toArray]);(try simp only[List.set_cons_succ]);(try simp only[List.set_cons_zero]);refine wpAnyH_ready (rs:= [7]) (by kernel_rfl) (by simp) ?_;refine AllReadyH.cons rfl (fun K hK=> ?_) AllReadyH.nil;rw[if_pos (by rfl)];refine wp_store_row 63 _ _ rfl _ rfl rfl (S4.out.at 1 rfl) rfl (by kernel_rfl) rfl ?_;intro W5 hb hg hs hn;have S5:=Lib.hid (S4.out.set 1 rfl hb hg hs hn);obtain⟨b4,off4,ead4,cD4⟩:=TabX.range (S5.out.g 0 rfl) i HI.out;injection ead4 with ead4;injection ead4 with eb4 eo4;subst eb4;subst eo4;clear hb hg hs hn;refine hK.out _ _ ⟨(cells2 (S5.out.at 0 rfl)).1,(by rw[HX.out];exact cD4),trivial⟩ (fun hHeld=> ?_);clear hK K;(try simp only[List.getElem_toArray]);(try simp only[List.getElem_cons_succ]);(try simp only[List.getElem_cons_zero]);(try simp only[Act.put]);(try simp only[List.setIfInBounds_toArray]);(try simp only[List.set_cons_succ]);(try simp only[List.set_cons_zero]);refine wpAnyH_take (i:=8) (v:= ?v7) rfl (by kernel_rfl) (by kernel_rfl) (by kernel_rfl) (fun _ _ _ h=>h) (Or.inl ⟨by rfl,?hy7⟩) hHeld ?rest7
          case hy7=>(intro w hSw;(try dsimp only at hSw);(try go_split_ands);go_simp;first | done | with_reducible rfl)
          (try simp only[List.getElem_toArray]);(try simp only[List.getElem_cons_succ]);(try simp only[List.getElem_cons_zero]);(try simp only[Act.put]);(try simp only[List.setIfInBounds_toArray]);(try simp only[List.set_cons_succ]);(try simp only[List.set_cons_zero]);refine wpAnyH_done (by kernel_rfl) ?_ _;go_wp2_with fail;refine bodyPost_ret (HRET.out _ _ _ (S5.out.at 1 rfl) rfl _ rfl) rfl ?_;refine⟨?_,S5.out.bel⟩;unfold GotIs;rw[HP1.out,HP2.out,HY.out];rfl
end Go.Proofs.YtgbmmcnadmfikaaGreatDoor
namespace Go.Proofs.YtgbmmcnadmfikaaGreatDoor
open Go.RowKit Go.Shelf
attribute [local go_sem ↓] Go.wp_at_zero Go.wp_at_succ
set_option maxRecDepth 100000 in
set_option maxHeartbeats 4000000 in
theorem pwrongFd_c {X:Nat→Prop}{S:Nat→Addr}(fd n:Int)(w:World)(h0 : -9223372036854775808≤fd)(h1:fd≤9223372036854775807)(hE:EnvX S X w):Calls Tryz.prog 114 #[.int .i64 fd, .int .i64 n] w fun e w'=>∃v,e = .returned v∧ErrK n v∧Below w.heap.size w w':=by
 have HI:=Lib.hid (Tryz.strconv_Itoa fd h0 h1 w hE.1.tab);have HL:=Lib.hid (Lib.itoa_length_le fd h0 h1);have HB:=Lib.hid (Below.refl w.heap.size w);clear h0 h1 hE;go_enter Tryz.func114,Tryz.ntmps114;go_wp2_with fail;refine HI.out.mono ?_;rintro e W1 ⟨rfl,k,os,rfl⟩;have HB1:Hid (Below w.heap.size w (Go.Sort.grow (w.drewN k) os)):=Lib.hid (Lib.below_grow _ _ (Nat.le_refl _) _ _);generalize Go.Sort.grow (w.drewN k) os=W1 at *;obtain⟨s,hs⟩ : ∃s:ByteArray,s=⟨(Lib.itoa fd).toArray⟩:=⟨_,rfl⟩;(have hsz:s.size≤21:=by rw[hs];exact HL.out);rw[←hs];have HS:=Lib.hid hs;clear hs HI;go_wp2_with fail;refine(pwrong_c _ n W1).mono ?_;rintro e W2 ⟨v,rfl,hv,hb⟩;have HV:=Lib.hid hv;have HB2:=Lib.hid (ret_tr HB1.out hb);clear hv hb;go_wp2_with fail;go_ret;exact⟨v,rfl,HV.out,HB2.out⟩
end Go.Proofs.YtgbmmcnadmfikaaGreatDoor
namespace Go.Proofs.YtgbmmcnadmfikaaGreatDoor
open Go.RowKit Go.Shelf
theorem wpList_copy_rd {P:Program}{w:World}{ops:Array Oper}{rest:List Oper}{o:Oper}{a:Act}{Q:Exit→Act→World→Prop}(hgd:o.guard=none)(d s:Operand)(dT sT:TypeId)
 (ho:o.op = .call { callee:= .builtin .copy,args:= #[d,s],argTypes:= #[dT,sT]}) (elem:TypeId) (size:Nat) (hu:P.underlying dT=some (.slice elem)) (hsz:(P.info? elem).map (·.size)=some size)
 (g dLen dCap:Nat) (hd:a.eval d = .slice (some ⟨g,0,none⟩) dLen dCap) (B:Nat) (vs:Value) (m:Nat) (ms:List Value) (hs:a.eval s=vs) (hr:Rd B size vs m ms w) (hm:m≤dLen)
 (cur:Array Value) (t:TypeId) (hg:w.heap[g]? = some (.cells cur t (0,0))) (hfit:m*size≤cur.size) (h1 : ∀u∈ms,u.oneCell'=true)
 (h:wpList P ops Q rest (a.put o.dst (goInt m)) (w.setCells g 0 ms)):wpList P ops Q (o::rest) a w:=by
  obtain⟨ao,cap,rfl,hc,hmm,h0,hl,hcell⟩:=hr;(refine wpList_plain hgd fun K hK=> ?_);have hst:=run_storeCells_cells (P:=P) g 0 ms 0 w (fun j hj=>by rw[Lib.cell_of_heap hg];simp;omega) (fun j _=>Lib.frozen_of_heap hg _) h1;have hK':=hK _ _ h;have hmin:Nat.min m dLen=m:=Nat.min_eq_left hm
  cases hq:P.info? elem with
  | none=>simp[hq]at hsz
  | some i =>
     have hi:i.size=size:=by simpa[hq]using hsz
     have hrun:(Builtin.copy_ #[dT,sT] o.type #[.slice (some ⟨g,0,none⟩) dLen dCap, .slice ao m cap]).run P w = .ok (goInt m) (w.setCells g 0 ms):=by
      cases ao with
      | none =>
         have hm0:=h0 rfl;(have e1:m=0:=by omega);subst e1;obtain rfl:ms = []:=List.eq_nil_of_length_eq_zero (by simpa using hl);simp[Builtin.copy_,run_underlying hu,Builtin.lenOf,Builtin.firstCells,sizeOf,typeInfo,hq,storeCells,World.setCells]
      | some ad =>
         have hload:(loadCells ad (m*size)).run P w = .ok ms.toArray w:=by
          rw[←hl];refine run_loadCells_list (P:=P) w ad ms fun j v hv=> ?_
          have hpos:0<m:=by
           rcases Nat.eq_zero_or_pos m with h | h
           · subst h
             obtain rfl:=List.eq_nil_of_length_eq_zero (by simpa using hl);simp at hv
           · exact h
          obtain⟨b,off,e,_,hcc⟩:=hcell hpos;injection e with e;subst e;rw[Go.WideShapes.add_plain];exact hcc j v hv
         have hst':(storeCells ⟨g,0,none⟩ ms).run P w = .ok () (w.setCells g 0 ms):=hst;simp[Builtin.copy_,run_underlying hu,Builtin.lenOf,Builtin.firstCells,sizeOf,typeInfo,hq,hi,hload,hst',hmin]
     unfold Oper.wp;simp[execOp,ho,resolve,invoke,builtin,hd,hs,hrun,Result.andThen];exact hK'
theorem wp_store_one {P:Program}{op:Oper}{a:Act}{w:World}{K:Act→World→Prop}{Q:Exit→Act→World→Prop}(ty:TypeId)(x y:Operand)(ho:op.op = .store ty x y)
 (b i:Nat) {v:Value} (hx:a.eval x = .pointer (some ⟨b,i,none⟩)) (hy:a.eval y=v) (hc:v.cells = #[v]) (h1:v.oneCell'=true) (hb:(w.cell? ⟨b,i,none⟩).isSome=true) (hf:w.frozen? ⟨b,i,none⟩=false) (hz:(P.info? ty).map (·.size)=some 1)
 (h:K (a.put op.dst undef) (w.setCell ⟨b,i,none⟩ v)):op.wp P a w K Q:=by
  have hst:=run_storeCells_cells (P:=P) b i [v] 0 w (fun j hj=>by
   (have:j=0:=by simpa using hj);subst this
   exact hb) (fun j hj=>by
   (have:j=0:=by simpa using hj);subst this
   exact hf) (fun u hu=>by rw[List.mem_singleton]at hu;subst hu;exact h1)
  have hsv:(storeVar ty ⟨b,i,none⟩ v).run P w = .ok () (w.setCell ⟨b,i,none⟩ v):=by
   simp only[Nat.add_zero]at hst
   cases hq:P.info? ty with
   | none=>simp[hq]at hz
   | some n =>
      (have hs:n.size=1:=by simpa[hq]using hz);simp[storeVar,sizeOf,typeInfo,hq,hc,hs,hst,World.setCells]
  unfold Oper.wp execOp;simp only[ho,hx,hy,Instr.storeAt,Instr.sureAddr,Sem.run_bind,Sem.run_pure,Result.andThen_ok,hsv];exact h
theorem Sf.apart3 {X:Nat→Prop}{w W:World}{B:List Bl}{G:List Thing}(_h:Sf X w B G W){base:Nat}{e:TypeId}{s n:Nat}{v:Value}{xs:List Value}(ho:W.ownsRow base e s v n xs)(hB : ∀g∈B.map (·.1),g<base) : ∀g,v.ownBlock=some g→∀x∈B,x.1≠g:=by
 intro g hg x hx e1;have:=hB _ (List.mem_map.2 ⟨x,hx,rfl⟩);have:=(ho.lt g hg).1;omega
theorem made_at (z:Array Value)(n j:Nat)(hj:j<n):(madeCells z n).toList[j]? = some z[j % z.size]!:= by
 rw[Array.getElem?_toList];simp[madeCells,hj]
theorem made_descs (n:Nat):(madeCells #[.int .i64 0, .int .i64 0, .bool false, .bool false, .int .i64 0, .int .i64 0] (n*6)).toList=cellsD (List.replicate n zeroD):=by
 apply List.ext_getElem?;intro j;rcases Nat.lt_or_ge j (n*6)with hj | hj
 · rw[made_at _ _ _ hj]
   obtain⟨q,r,rfl,hr⟩ : ∃q r,j=q*6+r∧r<6:=⟨j / 6,j % 6,by omega,by omega⟩;(have hq:q<n:=by omega);rw[cellsD_at _ q (by rw[List.length_replicate];exact hq) r hr,List.getElem_replicate,show(#[.int .i64 0, .int .i64 0, .bool false, .bool false, .int .i64 0, .int .i64 0]:Array Value).size=6 from rfl,show(q*6+r) % 6=r by omega];(have:r=0∨r=1∨r=2∨r=3∨r=4∨r=5:=by omega);rcases this with rfl | rfl | rfl | rfl | rfl | rfl<;>rfl
 · rw[List.getElem?_eq_none (by rw[Array.length_toList,size_madeCells];exact hj),List.getElem?_eq_none (by rw[cellsD_len,List.length_replicate];exact hj)]
theorem made_one (z:Value)(n:Nat):(madeCells #[z] n).toList=List.replicate n z:=by
 apply List.ext_getElem?;intro j;rcases Nat.lt_or_ge j n with hj | hj
 · rw[made_at _ _ _ hj,List.getElem?_replicate,if_pos hj,show(#[z]:Array Value).size=1 from rfl,Nat.mod_one]
   rfl
 · rw[List.getElem?_eq_none (by rw[Array.length_toList,size_madeCells];exact hj),List.getElem?_eq_none (by rw[List.length_replicate];exact hj)]
theorem own_descs {W:World}{base:Nat}{e:TypeId}{v:Value}{n:Nat}(h:W.ownsRow base e 6 v n (madeCells #[.int .i64 0, .int .i64 0, .bool false, .bool false, .int .i64 0, .int .i64 0] (n*6)).toList):W.ownsRow base e 6 v (List.replicate n zeroD).length (cellsD (List.replicate n zeroD)):=by
 rw[made_descs]at h;rw[List.length_replicate];exact h
theorem own_ints {W:World}{base:Nat}{e:TypeId}{v:Value}{n:Nat}(h:W.ownsRow base e 1 v n (madeCells #[.int .i64 0] (n*1)).toList):W.ownsRow base e 1 v (List.replicate n (0:Int)).length (intC (List.replicate n 0)):=by
 rw[made_one,Nat.mul_one]at h;rw[List.length_replicate];unfold intC;rw[List.map_replicate];exact h
theorem own_cells {W:World}{b:Nat}{e:TypeId}{s n m g cap:Nat}{xs:List Value}(h:W.ownsRow b e s (.slice (some ⟨g,0,none⟩) m cap) n xs) : ∃cur,W.heap[g]? = some (.cells cur e (0,0))∧cur.size=cap*s:=by
 rcases h.2 with⟨e1,_⟩ | ⟨g',cap',cur,e1,h1,h2,h3,h4,h5,h6⟩
 · cases e1
 injection e1 with e1 e2 e3;injection e1 with e1;injection e1 with e1 _ _;subst e1;subst e3;exact⟨cur,h2,h5⟩
section
variable {tD tS tI:TypeId} {base:Nat} {t:TabL} {vd vf:Value} {rows:List RowV} {X:Nat→Prop} {W W':World}
def noRow:RowV:=([], .slice none 0 0)
theorem OwnT.start {ds:List DescL}{n:Nat}(h:OwnT tD tS tI base ⟨ds,[]⟩ vd (.slice none 0 0) [] W)(ho:W.ownsRow base tS 1 vf n (madeCells #[.slice none 0 0] (n*1)).toList):OwnT tD tS tI base ⟨ds,List.replicate n []⟩ vd vf (List.replicate n noRow) W:=by
 refine⟨by rw[List.map_replicate];rfl,h.ds,?_,fun m hm=> ?_,fun i j a b ha _ _ g hg=> ?_⟩
 · rw[made_one,Nat.mul_one]at ho
   rw[List.length_replicate,List.map_replicate];exact ho
 · obtain rfl:=List.eq_of_mem_replicate hm
   exact World.ownsRow_nil _ _ _ _
 · obtain rfl:=List.eq_of_mem_replicate (List.mem_of_getElem? ha)
   cases hg
theorem OwnT.putRow (h:OwnT tD tS tI base t vd vf rows W){gf capf p:Nat}(e:vf = .slice (some ⟨gf,0,none⟩) rows.length capf)(hp:p<t.fs.length){r:List Int}{v:Value}(hv:W.ownsRow base tI 1 v r.length (intC r))(hn : ∀g,v.ownBlock=some g→∀m∈rows,m.2.ownBlock≠some g)
 (hD:tD≠tS) (hI:tI≠tS) (hg:W'.heap[gf]? = (W.setCells gf p [v]).heap[gf]?) (hoth : ∀k,k≠gf→W'.heap[k]? = W.heap[k]?):OwnT tD tS tI base ⟨t.ds,t.fs.set p r⟩ vd vf (rows.set p (r,v)) W':=by
  subst e;have hl:=rows_len h.fs;(have hp':p<rows.length:=by omega);have hO:=h.out;(have ne : ∀ {b:Nat} {e':TypeId} {s n:Nat} {v:Value} {xs:List Value},W.ownsRow b e' s v n xs→e'≠tS→v.ownBlock≠some gf:=fun h' he hv=>own_ne hO h' (Ne.symm he) gf rfl hv);refine⟨?_,own_other h.ds (ne h.ds hD) hoth,?_,fun m hm=> ?_,fun i j a b ha hb hne q hq=> ?_⟩
  · show _=t.fs.set p r
    rw[List.map_set,h.fs]
  · rw[List.length_set]
    refine own_seg hO (o:=p) (vs:= [v]) (by rw[List.length_singleton];omega) ?_ hg;rw[List.map_set,List.set_eq_take_append_cons_drop,if_pos (by rw[List.length_map];exact hp')];rfl
  · obtain⟨j,hj⟩:=List.mem_iff_getElem?.1 hm
    rw[List.getElem?_set]at hj;split at hj
    · rename_i e
      injection hj with hj;subst hj;exact own_other hv (ne hv hI) hoth
    · exact own_other (h.row m (List.mem_of_getElem? hj)) (ne (h.row m (List.mem_of_getElem? hj)) hI) hoth
  · have at' : ∀(i:Nat) (a:RowV),(rows.set p (r,v))[i]? = some a→(i=p∧a=(r,v))∨(i≠p∧rows[i]? = some a):=fun i a ha=>by
     rw[List.getElem?_set]at ha;split at ha
     · rename_i e
       injection ha with ha;exact .inl ⟨e.symm,ha.symm⟩
     · rename_i e
       exact .inr ⟨Ne.symm e,ha⟩
    rcases at' i a ha with⟨e1,e2⟩ | ⟨hi,ha⟩
    · subst e2
      rcases at' j b hb with⟨e3,e4⟩ | ⟨hj,hb⟩
      · exact absurd (e1.trans e3.symm) hne
      · exact hn q hq b (List.mem_of_getElem? hb)
    · rcases at' j b hb with⟨e3,e4⟩ | ⟨hj,hb⟩
      · subst e4
        intro hq2;exact hn q hq2 a (List.mem_of_getElem? ha) hq
      · exact h.apart i j a b ha hb hne q hq
theorem OwnT.fillRow (h:OwnT tD tS tI base t vd vf rows W){p g cr:Nat}{r0 r:List Int}(hp:p<t.fs.length)(hr:rows[p]? = some (r0, .slice (some ⟨g,0,none⟩) r0.length cr))(hlr:r.length=r0.length)(hD:tD≠tI)(hS:tS≠tI)
 (hg:W'.heap[g]? = (W.setCells g 0 (intC r)).heap[g]?) (hoth : ∀k,k≠g→W'.heap[k]? = W.heap[k]?):OwnT tD tS tI base ⟨t.ds,t.fs.set p r⟩ vd vf (rows.set p (r, .slice (some ⟨g,0,none⟩) r0.length cr)) W':=by
  have hl:=rows_len h.fs;(have hp':p<rows.length:=by omega);have hR:=h.row _ (List.mem_of_getElem? hr);have ne : ∀ {b:Nat} {e':TypeId} {s n:Nat} {v:Value} {xs:List Value},W.ownsRow b e' s v n xs→e'≠tI→v.ownBlock≠some g:=fun h' he hv=>own_ne hR h' (Ne.symm he) g rfl hv
  have hsnd:(rows.set p (r, .slice (some ⟨g,0,none⟩) r0.length cr)).map (·.2)=rows.map (·.2):=by
   apply List.ext_getElem?;intro j;rw[List.getElem?_map,List.getElem?_map,List.getElem?_set];split
   · rename_i e;subst e;rw[hr];rfl
   · rfl
  refine⟨?_,own_other h.ds (ne h.ds hD) hoth,?_,fun m hm=> ?_,fun i j a b ha hb hne q hq=> ?_⟩
  · show _=t.fs.set p r
    rw[List.map_set,h.fs]
  · rw[hsnd,List.length_set]
    exact own_other h.out (ne h.out hS) hoth
  · obtain⟨j,hj⟩:=List.mem_iff_getElem?.1 hm
    rw[List.getElem?_set]at hj;split at hj
    · rename_i e
      injection hj with hj;subst hj;show W'.ownsRow base tI 1 _ r.length _;rw[hlr];refine own_seg hR (o:=0) (vs:=intC r) (by rw[intC_len,hlr];omega) ?_ hg;rw[List.take_zero,List.nil_append,Nat.zero_add,List.drop_eq_nil_of_le (by rw[intC_len,intC_len,hlr];exact Nat.le_refl _),List.append_nil]
    · rename_i e
      exact own_other (h.row m (List.mem_of_getElem? hj)) (fun hq=>h.apart p j _ m hr hj e g rfl hq) hoth
  · have same : ∀(i:Nat) (a:RowV),(rows.set p (r, .slice (some ⟨g,0,none⟩) r0.length cr))[i]? = some a→∃a',rows[i]? = some a'∧a'.2=a.2:=fun i a ha=>by
     rw[List.getElem?_set]at ha;split at ha
     · rename_i e
       subst e;injection ha with ha;subst ha;exact⟨_,hr,rfl⟩
     · exact⟨a,ha,rfl⟩
    obtain⟨a',ha',ea⟩:=same i a ha;obtain⟨b',hb',eb⟩:=same j b hb;rw[←ea]at hq;rw[←eb];exact h.apart i j a' b' ha' hb' hne q hq
end
def partF (fs:List (List Int))(k:Nat):List (List Int):=fs.take k++List.replicate (fs.length-k) []
theorem partF_len (fs:List (List Int)){k:Nat}(h:k≤fs.length):(partF fs k).length=fs.length:=by unfold partF;rw[List.length_append,List.length_take,List.length_replicate];omega
theorem partF_zero (fs:List (List Int)):partF fs 0=List.replicate fs.length []:=by unfold partF;simp
theorem partF_all (fs:List (List Int)):partF fs fs.length=fs:=by unfold partF;simp
theorem partF_at (fs:List (List Int)){k:Nat}(h:k≤fs.length)(j:Nat):(partF fs k)[j]? = if j<k then fs[j]? else if j<fs.length then some []else none:=by
 (have hl:(fs.take k).length=k:=by rw[List.length_take];omega);unfold partF;by_cases h1:j<k
 · rw[if_pos h1,List.getElem?_append_left (by omega),List.getElem?_take,if_pos h1]
 · rw[if_neg h1,List.getElem?_append_right (by omega),hl,List.getElem?_replicate]
   by_cases h2:j<fs.length
   · rw[if_pos (by omega),if_pos h2]
   · rw[if_neg (by omega),if_neg h2]
theorem partF_next (fs:List (List Int)){k:Nat}(h:k<fs.length):(partF fs k).set k fs[k]=partF fs (k+1):=by
 apply List.ext_getElem?;intro j;rw[List.getElem?_set,partF_at fs (by omega),partF_at fs (by omega),partF_len fs (by omega)];rcases Nat.lt_trichotomy j k with h1 | h1 | h1
 · rw[if_neg (by omega),if_pos h1,if_pos (by omega)]
 · subst h1
   rw[if_pos rfl,if_pos h,if_pos (by omega),List.getElem?_eq_getElem h]
 · rw[if_neg (show ¬k=j by omega),if_neg (show ¬j<k by omega),if_neg (show ¬j<k+1 by omega)]
theorem cells_over (ds:List DescL){n:Nat}(h:ds.length≤n):cellsD (ds++List.replicate (n-ds.length) zeroD)=(cellsD (List.replicate n zeroD)).take 0++(cellsD ds++(cellsD (List.replicate n zeroD)).drop (0+(cellsD ds).length)):=by
 rw[List.take_zero,List.nil_append,Nat.zero_add,cellsD_app];congr 1;rw[show n=ds.length+(n-ds.length)by omega,←List.replicate_append_replicate,cellsD_app,List.drop_append,List.drop_eq_nil_of_le (by rw[cellsD_len,cellsD_len,List.length_replicate];exact Nat.le_refl _),List.nil_append,cellsD_len,cellsD_len,List.length_replicate,Nat.sub_self,List.drop_zero];congr 2;omega
theorem put_over (ds:List DescL){i:Nat}(h:i≤ds.length)(x:DescL):(ds++List.replicate (max ds.length (i+1)-ds.length) zeroD).set i x=putD1 ds i x:=by
 unfold putD1;rcases Nat.lt_or_ge i ds.length with h1 | h1
 · rw[if_neg (by omega),show max ds.length (i+1)-ds.length=0 by omega,List.replicate_zero,List.append_nil]
 · rw[if_pos (by omega),show max ds.length (i+1)-ds.length=1 by omega,List.set_append,if_neg (by omega),show i-ds.length=0 by omega]
   rfl
structure TurnL where
 p:Nat
 fd:Nat
 dst:Int
def ucells (u:TurnL):List Value:= [.int .i64 u.p, .int .i64 u.fd, .int .i64 u.dst]
def cellsU (us:List TurnL):List Value:=us.flatMap ucells
theorem cellsU_cons (d:TurnL)(ds:List TurnL):cellsU (d::ds)=ucells d++cellsU ds:=by simp[cellsU]
theorem cellsU_at (ds:List TurnL)(k:Nat)(h:k<ds.length)(j:Nat)(hj:j<3):(cellsU ds)[k*3+j]? = (ucells ds[k])[j]?:= by
 induction ds generalizing k with
 | nil=>simp at h
 | cons d ds ih =>
    have l3:(ucells d).length=3:=rfl;rw[cellsU_cons]
    cases k with
    | zero =>
       rw[List.getElem?_append_left (by omega)];simp
    | succ k =>
       rw[List.getElem?_append_right (by omega),l3,show(k+1)*3+j-3=k*3+j by omega];exact ih k (by simpa using h)
theorem RdX.turn {us:List TurnL}{au:Option Addr}{cu:Nat}{X:Nat→Prop}{W:World}(h:RdX 3 (.slice au us.length cu) us.length (cellsU us) X W)(k:Nat)(hk:k<us.length) : ∃b off,au=some ⟨b,off,none⟩∧W.rangeAt b (off+k*3) (ucells us[k]):=by
 obtain⟨b,off,c,e1,_,_,hb,_,hc⟩:=h.1.at (by omega);injection e1 with e1 e2 e3;subst e1;refine⟨b,off,rfl,fun j v hv=> ?_⟩
 have hj:j<3:=by
  rcases Nat.lt_or_ge j 3 with h | h
  · exact h
  · rw[List.getElem?_eq_none (by exact h)]at hv;cases hv
 rw[Nat.add_assoc];exact hc _ v ((cellsU_at _ k hk j hj).trans hv)
def turnF (fs:List (List Int))(us:List TurnL):List (List Int):=us.foldl (fun fs u=>putF fs u.p u.fd u.dst) fs
theorem turnF_next (fs:List (List Int))(us:List TurnL){k:Nat}(h:k<us.length):turnF fs (us.take (k+1))=putF (turnF fs (us.take k)) us[k].p us[k].fd us[k].dst:=by
 unfold turnF;rw[List.take_succ_eq_append_getElem h,List.foldl_append];rfl
theorem turnF_len (fs:List (List Int))(us:List TurnL):(turnF fs us).length=fs.length:=by
 induction us generalizing fs with
 | nil=>rfl
 | cons u us ih=>show(turnF (putF fs u.p u.fd u.dst) us).length=_;rw[ih,putF_len]
theorem putF_eight {fs:List (List Int)}(h : ∀r∈fs,r.length=8){p k:Nat}{v:Int}(hp:p<fs.length) : ∀r∈putF fs p k v,r.length=8:=by
 intro r hr;rcases List.mem_or_eq_of_mem_set hr with hr | rfl
 · exact h r hr
 · rw[List.length_set,getD_at hp]
   exact h _ (List.getElem_mem hp)
theorem turnF_eight {fs:List (List Int)}(h : ∀r∈fs,r.length=8)(us:List TurnL)(hu : ∀u∈us,u.p<fs.length) : ∀r∈turnF fs us,r.length=8:=by
 induction us generalizing fs with
 | nil=>exact h
 | cons u us ih=>exact ih (putF_eight h (hu u List.mem_cons_self)) fun v hv=>by rw[putF_len];exact hu v (List.mem_cons_of_mem _ hv)
end Go.Proofs.YtgbmmcnadmfikaaGreatDoor
