import Derived.Test.YtpbmbpefophlfaaGreatDoorR25
import Derived.Test.YtpbmbpefophlfaaGreatDoorR19
import Derived.Deep.RegionHeld3
import Derived.Deep.DeepCutAuto
import Derived.Test.YtpbmbpefophlfaaGreatDoorR18
import Derived.Test.YtpbmbpefophlfaaGreatDoorR17
import Derived.Test.YtpbmbpefophlfaaGreatDoorR12
import Derived.Test.YtpbmbpefophlfaaGreatDoorR11
import Derived.Test.YtpbmbpefophlfaaGreatDoorProg
import Derived.LaidEql
import Derived.Stop.Asserts
import Derived.RowKitTokens
import Derived.Test.YtpbmbpefophlfaaGreatDoorR13
namespace Go.Proofs.YtpbmbpefophlfaaGreatDoor
open Go.RowKit Go.Shelf
attribute [local go_sem ↓] Go.wp_at_zero Go.wp_at_succ
theorem TabX.newD {t:TabL}{vd vd' vf:Value}{X:Nat→Prop}{W:World}(h:TabX t vd vf X W)(hd:RdX 6 vd' t.ds.length (cellsD t.ds) X W):TabX t vd' vf X W:=by
 obtain⟨rows,e,_,h2,h3⟩:=h;exact⟨rows,e,hd,h2,h3⟩
theorem cellsP_app (a b:List ProcL):cellsP (a++b)=cellsP a++cellsP b:=by simp[cellsP]
theorem prcells_one (x:ProcL) : ∀v∈prcells x,v.oneCell'=true:=fun v hv=>cellsP_one [x] v (by rw[cellsP_cons];exact List.mem_append_left _ hv)
set_option maxRecDepth 100000 in
set_option maxHeartbeats 4000000 in
theorem kern_c (X:Nat→Prop)(k:KernL)(ao ad af ap:Option Addr)(co cd cf cp:Nat)(w:World)(hX:Old X w)(hD:DiskX k.l (.slice ao k.l.length co) X w)(hT:TabX k.t (.slice ad k.t.ds.length cd) (.slice af k.t.fs.length cf) X w)(hP:PsX k.ps (.slice ap k.ps.length cp) X w)(hl:k.l.length≤10000)(hnl : ∀n∈k.l,n.names.length≤10000)(hz:SizeT k.t)(hp:k.ps.length≤1000) :
 Calls Tryz.prog 8 #[.agg #[.slice ao k.l.length co, .int .i64 k.most, .int .i64 k.room, .slice ad k.t.ds.length cd, .slice af k.t.fs.length cf, .slice ap k.ps.length cp]] w fun e w'=>∃ao' co' ad' cd' ap' cp',e = .returned (kernV (.slice ao' k.l.length co') k.most k.room (.slice ad' k.t.ds.length cd') (.slice af k.t.fs.length cf) (.slice ap' k.ps.length cp'))∧DiskX k.l (.slice ao' k.l.length co') X w'∧TabX k.t (.slice ad' k.t.ds.length cd') (.slice af k.t.fs.length cf) X w'∧PsX k.ps (.slice ap' k.ps.length cp') X w'∧Below w.heap.size w w':=by
 have S0:=Lib.hid (Sf.start (G:= [DiskX k.l (.slice ao k.l.length co),TabX k.t (.slice ad k.t.ds.length cd) (.slice af k.t.fs.length cf),PsX k.ps (.slice ap k.ps.length cp)]) hX (th3 (DiskX.firm _ _) hD (TabX.firm _ _ _) hT (PsX.firm _ _) hP));have HD0:=Lib.hid hD;have HT0:=Lib.hid hT;have HP0:=Lib.hid hP
 have HRET:Hid (∀(W:World) (cs:Array Value) (fr),W.heap[w.heap.size+1]? = some (.cells cs 48 fr)→cs.size=6→∀tmps:Array Value,tmps.getD 2 undef = .pointer (some ⟨w.heap.size+1,0,none⟩)→(results Tryz.f8 tmps).run Tryz.prog W = .ok (.agg cs) W):=Lib.hid fun W cs fr h hs tmps ht =>
 results_cell_row (p:=2)  (ty:=48) rfl tmps W (w.heap.size+1) _ cs fr _ ht h Tryz.underlying48 rfl (by rw[hs];kernel_rfl)
 obtain⟨iD,hD1,hD2,hD3,hD4⟩:=info_parts infoDescR;obtain⟨iP,hP1,hP2,hP3,hP4⟩:=info_parts infoProcR;have HL:=Lib.hid hl;have HNL:=Lib.hid hnl;have HZ:=Lib.hid hz;have HPL:=Lib.hid hp;clear hX hD hT hP hl hnl hz hp;go_enter Tryz.func8,Tryz.ntmps8;go_upto_region 1 with(fail);refine code_fresh2 ?_;intro W1 hb hA0 hA1 hs;have S1:=Lib.hid (S0.out.new2 hb hA0 hA1);clear hb hA0 hA1 hs;go_upto_region 2 with(first | (refine wpList_fresh1 ?_;intro W2 hb2 hA2 hs2;have S2:=Lib.hid (S1.out.call hb2);have HW:=Lib.hid (show W2.ownsRow w.heap.size 80 6 (.slice (some ⟨W1.heap.size,0,none⟩) 0 0) 0 (cellsD [])from own_mono (own_emptyT (s:=6) hA2) S1.out.bel.size);clear hb2 hA2 hs2));obtain⟨-, -, -,k3, -, -⟩:=cells6 (S2.out.at 0 rfl);go_wp2_with fail;go_loopw [3,4] (fun v i wr=>∃m:Nat,i = .int .i64 m∧m≤k.t.ds.length∧Hid (Sf X w [(w.heap.size,#[.slice ao k.l.length co, .int .i64 k.most, .int .i64 k.room, .slice ad k.t.ds.length cd, .slice af k.t.fs.length cf, .slice ap k.ps.length cp],31),(w.heap.size+1,#[.slice none 0 0, .int .i64 0, .int .i64 0, .slice none 0 0, .slice none 0 0, .slice none 0 0],48)] [DiskX k.l (.slice ao k.l.length co),TabX k.t (.slice ad k.t.ds.length cd) (.slice af k.t.fs.length cf),PsX k.ps (.slice ap k.ps.length cp)] wr)∧Hid (wr.ownsRow w.heap.size 80 6 v m (cellsD (k.t.ds.take m)))) (fun _ i _=>k.t.ds.length-(RowKit.intOf i).toNat)
 case atStart=>exact⟨0,rfl,Nat.zero_le _,S2,HW⟩
 case round =>
  clear S2 HW k3;obtain⟨m,rfl,hm,S5,HW⟩:=hrel;have hl1:k.t.ds.length≤1000:=HZ.out.1;obtain⟨ao3,cp3,rfl⟩:=own_form HW.out;obtain⟨-, -, -,k3, -, -⟩:=cells6 (S5.out.at 0 rfl);by_cases hlt:m<k.t.ds.length
  · have iL1:decide (m<k.t.ds.length)=true:=decide_eq_true (by omega)
    have iM1:decide ((m:Int)<(k.t.ds.length:Int))=true:=decide_eq_true (by omega);have wm:IntKind.i64.wrap ((m:Int)+1)=(m:Int)+1:=Go.IntWalk.i64_in _ (by omega);(have m0:(0:Int)≤(m:Int):=by omega);(have m1:(m:Int)<(k.t.ds.length:Int):=by omega);go_upto_region 5 with(fail);obtain⟨b,off,ead,cD⟩:=TabX.range (S5.out.g 1 rfl) m hlt;subst ead;obtain⟨y,hy⟩ : ∃y,y=k.t.ds[m]:=⟨_,rfl⟩;rw[←hy]at cD;replace cD:wr.rangeAt b (off+m*6) [.int .i64 y.ino, .int .i64 y.pos, .bool y.rd, .bool y.wr, .int .i64 y.refs, .int .i64 y.lock]:=cD;have HT:=Lib.hid (show cellsD (k.t.ds.take (m+1))=cellsD (k.t.ds.take m)++dcells y by rw[hy,List.take_succ_eq_append_getElem hlt,cellsD_app];congr 1);clear hy
    go_wp2_with (first
     | (refine wpList_load_mid rfl 60 _ rfl b (off+m*6) rfl _ _ cD Tryz.underlying60 rfl (by kernel_rfl) ?_)
     | (refine wpList_fresh1 ?_;intro W6 hb6 hA6 hs6;have S6:=Lib.hid (S5.out.call hb6);have HW6:=Lib.hid (ownsRow_below HW.out hb6 (Nat.le_refl _));clear hs6 k3;obtain⟨-, -, -,k3, -, -⟩:=cells6 (S6.out.at 0 rfl))
     | (at_builtin;go_loud (refine wpList_append_lies W6 rfl (.tmp 16) (.tmp 23) 43 rfl w.heap.size 80 iD _ 6 40 Tryz.underlying43 hD1 hD2 hD3 hD4 rfl (by decide) (.slice ao3 m cp3) m (cellsD (k.t.ds.take m)) rfl HW6.out ⟨wr.heap.size,0,none⟩ 1 1 (dcells y) rfl rfl (World.news_of_block (cs:= #[.int .i64 y.ino, .int .i64 y.pos, .bool y.rd, .bool y.wr, .int .i64 y.refs, .int .i64 y.lock]) (t:=80) (fr:=(0,0)) hA6) (dcells_one y) (by decide) (by unfold maxLen;omega) (by omega) S6.out.bel.size _ rfl ?_);intro gg cp2 W7 ho7 hgr7 hat7 hlt7;have S7:=Lib.hid (S6.out.grown (fun P hP=>by simp only[List.mem_cons,List.not_mem_nil,or_false]at hP;rcases hP with rfl | rfl | rfl;exact HD0.out;exact HT0.out;exact HP0.out) hgr7 (fun g e=>⟨(HW6.out.lt g e).1,S6.out.apart HW6.out rfl g e⟩));have HW7:=Lib.hid (show W7.ownsRow w.heap.size 80 6 (.slice (some ⟨gg,0,none⟩) (m+1) cp2) (m+1) (cellsD (k.t.ds.take (m+1)))from(by rw[HT.out];exact ho7));clear ho7 hgr7 hat7 hlt7 k3))
    go_roundw
    case rel=>exact⟨m+1,by go_num,hlt,S7,HW7⟩
    case measure=>simp[RowKit.intOf];omega
  · have iL1:decide (m<k.t.ds.length)=false:=decide_eq_false (by omega)
    have iM1:decide ((m:Int)<(k.t.ds.length:Int))=false:=decide_eq_false (by omega);(have hke:m=k.t.ds.length:=by omega);subst hke;have HV:Hid (wr.ownsRow w.heap.size 80 6 (.slice ao3 k.t.ds.length cp3) k.t.ds.length (cellsD k.t.ds)):=Lib.hid (by have:=HW.out;rw[List.take_length]at this;exact this);clear HW hlt hm;go_upto_region 6 with(fail);clear iL1 iM1 k3;have HTN:=Lib.hid ((S5.out.g 1 rfl:TabX k.t _ _ _ _).newD (S5.out.rdx HV.out rfl));clear HV;generalize wr=W5 at *;have HT5:Hid (Sf (Xo X [w.heap.size,w.heap.size+1]) W5 [] [DiskX k.l (.slice ao k.l.length co),TabX k.t (.slice ao3 k.t.ds.length cp3) (.slice af k.t.fs.length cf),PsX k.ps (.slice ap k.ps.length cp)] W5):=Lib.hid (Sf.start S5.out.oldX (th3 (DiskX.firm _ _) (S5.out.g 0 rfl) (TabX.firm _ _ _) HTN.out (PsX.firm _ _) (S5.out.g 2 rfl)));have HD5:=Lib.hid (S5.out.g 0 rfl);have HP5:=Lib.hid (S5.out.g 2 rfl);go_upto_region 7 with(first | (refine wpList_fresh1 ?_;intro W6 hb2 hA2 hs2;have T2:=Lib.hid (HT5.out.call hb2);have HW:=Lib.hid (show W6.ownsRow W5.heap.size 79 4 (.slice (some ⟨W5.heap.size,0,none⟩) 0 0) 0 (cellsP [])from own_emptyT (s:=4) hA2);clear hb2 hA2 hs2));obtain⟨-, -, -, -, -,k5⟩:=cells6 ((S5.out.call T2.out.bel).at 0 rfl);go_wp2_with fail;go_loopw [5,6] (fun v i wr=>∃m:Nat,i = .int .i64 m∧m≤k.ps.length∧Hid (Sf (Xo X [w.heap.size,w.heap.size+1]) W5 [] [DiskX k.l (.slice ao k.l.length co),TabX k.t (.slice ao3 k.t.ds.length cp3) (.slice af k.t.fs.length cf),PsX k.ps (.slice ap k.ps.length cp)] wr)∧Hid (wr.ownsRow W5.heap.size 79 4 v m (cellsP (k.ps.take m)))) (fun _ i _=>k.ps.length-(RowKit.intOf i).toNat)
    case atStart=>exact⟨0,rfl,Nat.zero_le _,T2,HW⟩
    case round =>
     clear T2 HW k5;obtain⟨m,rfl,hm,T5,HW⟩:=hrel;have hl1:k.ps.length≤1000:=HPL.out;obtain⟨ao4,cp4,rfl⟩:=own_form HW.out;obtain⟨-, -, -, -, -,k5⟩:=cells6 ((S5.out.call T5.out.bel).at 0 rfl);by_cases hlt:m<k.ps.length
     · have iL1:decide (m<k.ps.length)=true:=decide_eq_true (by omega)
       have iM1:decide ((m:Int)<(k.ps.length:Int))=true:=decide_eq_true (by omega);have wm:IntKind.i64.wrap ((m:Int)+1)=(m:Int)+1:=Go.IntWalk.i64_in _ (by omega);(have m0:(0:Int)≤(m:Int):=by omega);(have m1:(m:Int)<(k.ps.length:Int):=by omega);go_upto_region 10 with(fail);obtain⟨b,off,eap,cD⟩:=PsX.range (T5.out.g 2 rfl) m hlt;subst eap;obtain⟨y,hy⟩ : ∃y,y=k.ps[m]:=⟨_,rfl⟩;rw[←hy]at cD;replace cD:wr.rangeAt b (off+m*4) [.int .i64 y.who, .int .i64 y.umask, .int .i64 y.cwd, .bool y.live]:=cD;have HTK:=Lib.hid (show cellsP (k.ps.take (m+1))=cellsP (k.ps.take m)++prcells y by rw[hy,List.take_succ_eq_append_getElem hlt,cellsP_app];simp[cellsP]);clear hy
       go_wp2_with (first
        | (refine wpList_load_mid rfl 74 _ rfl b (off+m*4) rfl _ _ cD Tryz.underlying74 rfl (by kernel_rfl) ?_)
        | (refine wpList_fresh1 ?_;intro W6 hb6 hA6 hs6;have T6:=Lib.hid (T5.out.call hb6);have HW6:=Lib.hid (ownsRow_below HW.out hb6 (Nat.le_refl _));clear hs6 k5;obtain⟨-, -, -, -, -,k5⟩:=cells6 ((S5.out.call T6.out.bel).at 0 rfl))
        | (at_builtin;go_loud (refine wpList_append_lies W6 rfl (.tmp 33) (.tmp 39) 46 rfl W5.heap.size 79 iP _ 4 32 Tryz.underlying46 hP1 hP2 hP3 hP4 rfl (by decide) (.slice ao4 m cp4) m (cellsP (k.ps.take m)) rfl HW6.out ⟨wr.heap.size,0,none⟩ 1 1 (prcells y) rfl rfl (World.news_of_block (cs:= #[.int .i64 y.who, .int .i64 y.umask, .int .i64 y.cwd, .bool y.live]) (t:=79) (fr:=(0,0)) hA6) (prcells_one y) (by decide) (by unfold maxLen;omega) (by omega) T6.out.bel.size _ rfl ?_);intro gg cp2 W7 ho7 hgr7 hat7 hlt7;have T7:=Lib.hid (T6.out.grown (fun P hP=>by simp only[List.mem_cons,List.not_mem_nil,or_false]at hP;rcases hP with rfl | rfl | rfl;exact HD5.out;exact HTN.out;exact HP5.out) hgr7 (fun g e=>⟨(HW6.out.lt g e).1,T6.out.apart HW6.out rfl g e⟩));have HW7:=Lib.hid (show W7.ownsRow W5.heap.size 79 4 (.slice (some ⟨gg,0,none⟩) (m+1) cp2) (m+1) (cellsP (k.ps.take (m+1)))from(by rw[HTK.out];exact ho7));clear ho7 hgr7 hat7 hlt7 k5))
       go_roundw
       case rel=>exact⟨m+1,by go_num,hlt,T7,HW7⟩
       case measure=>simp[RowKit.intOf];omega
     · have iL1:decide (m<k.ps.length)=false:=decide_eq_false (by omega)
       have iM1:decide ((m:Int)<(k.ps.length:Int))=false:=decide_eq_false (by omega);(have hke:m=k.ps.length:=by omega);subst hke;have HV:Hid (wr.ownsRow W5.heap.size 79 4 (.slice ao4 k.ps.length cp4) k.ps.length (cellsP k.ps)):=Lib.hid (by have:=HW.out;rw[List.take_length]at this;exact this);clear HW hlt hm;go_upto_region 11 with(fail);clear iL1 iM1 k5;have S9:=Lib.hid (((S5.out.call T5.out.bel).more (TabX.firm _ _ _) (T5.out.gX 1 rfl)).more (PsX.firm k.ps (.slice ao4 k.ps.length cp4)) (show RdX 4 _ _ _ (Xo X [w.heap.size,w.heap.size+1]) _ from RdX.own HV.out S5.out.oldX));clear HV HT5 HTN T5 HD5 HP5;generalize wr=W9 at *;have h_k:=(S9.out.at 0 rfl);refine wp_region_held_drew (S:=fun W=>W.heap[w.heap.size]? = some (.cells #[.slice ao k.l.length co, .int .i64 k.most, .int .i64 k.room, .slice ad k.t.ds.length cd, .slice af k.t.fs.length cf, .slice ap k.ps.length cp] 31 (0,0))∧W.rangeAt w.heap.size 0 [.slice ao k.l.length co, .int .i64 k.most, .int .i64 k.room]∧True) (by kernel_rfl) ⟨(S9.out.at 0 rfl),k_disk (S9.out.at 0 rfl),trivial⟩ (fun hHeld=> ?_);clear h_k;have S10:=Lib.hid (S9.out.call (Below.refl W9.heap.size W9).drew);generalize W9.drew=W10 at *;refine wpAnyH_take (i:=0) (v:= ?v1) rfl (by kernel_rfl) (by kernel_rfl) (by kernel_rfl) (fun _ _ _ h=>h) (Or.inl ⟨by rfl,?hy1⟩) hHeld ?rest1
       case hy1=>(intro w hSw;(try dsimp only at hSw);(try go_split_ands);go_simp;first | done | with_reducible rfl)
       (try simp only[List.getElem_toArray]);(try simp only[List.getElem_cons_succ]);(try simp only[List.getElem_cons_zero]);(try simp only[Act.put]);(try simp only[List.setIfInBounds_toArray]);(try simp only[List.set_cons_succ]);(try simp only[List.set_cons_zero]);refine wpAnyH_take (i:=1) rfl (by kernel_rfl) (by kernel_rfl) (by kernel_rfl) (fun _ _ _ h=>h) (yieldsIf_load_mid (by rfl) 24 _ rfl _ 0 rfl _ _ (fun _ h=>h.2.1) Tryz.underlying24 rfl (by kernel_rfl)) hHeld ?_;(try simp only[List.getElem_toArray]);(try simp only[List.getElem_cons_succ]);(try simp only[List.getElem_cons_zero]);(try simp only[Act.put]);(try simp only[List.setIfInBounds_toArray]);(try simp only[List.set_cons_succ]);(try simp only[List.set_cons_zero]);refine wpAnyH_take (i:=3) (v:= ?v2) rfl (by kernel_rfl) (by kernel_rfl) (by kernel_rfl) (fun _ _ _ h=>h) (Or.inl ⟨by rfl,?hy2⟩) hHeld ?rest2
       case hy2=>(intro w hSw;(try dsimp only at hSw);(try go_split_ands);go_simp;first | done | with_reducible rfl)
       (try simp only[List.getElem_toArray]);(try simp only[List.getElem_cons_succ]);(try simp only[List.getElem_cons_zero]);(try simp only[Act.put]);(try simp only[List.setIfInBounds_toArray]);(try simp only[List.set_cons_succ]);(try simp only[List.set_cons_zero]);refine wpAnyH_take (i:=4) (v:= ?v3) rfl (by kernel_rfl) (by kernel_rfl) (by kernel_rfl) (fun _ _ _ h=>h) (Or.inl ⟨by rfl,?hy3⟩) hHeld ?rest3
       case hy3=>(intro w hSw;(try dsimp only at hSw);(try go_split_ands);go_simp;first | done | with_reducible rfl)
       (try simp only[List.getElem_toArray]);(try simp only[List.getElem_cons_succ]);(try simp only[List.getElem_cons_zero]);(try simp only[Act.put]);(try simp only[List.setIfInBounds_toArray]);(try simp only[List.set_cons_succ]);(try simp only[List.set_cons_zero]);refine wpAnyH_take (i:=5) (v:= ?v4) rfl (by kernel_rfl) (by kernel_rfl) (by kernel_rfl) (fun _ _ _ h=>h) (Or.inl ⟨by rfl,?hy4⟩) hHeld ?rest4
       case hy4=>(intro w hSw;(try dsimp only at hSw);(try go_split_ands);go_simp;first | done | with_reducible rfl)
       (try simp only[List.getElem_toArray]);(try simp only[List.getElem_cons_succ]);(try simp only[List.getElem_cons_zero]);(try simp only[Act.put]);(try simp only[List.setIfInBounds_toArray]);(try simp only[List.set_cons_succ]);(try simp only[List.set_cons_zero]);refine wpAnyH_take (i:=6) (v:= ?v5) rfl (by kernel_rfl) (by kernel_rfl) (by kernel_rfl) (fun _ _ _ h=>h) (Or.inl ⟨by rfl,?hy5⟩) hHeld ?rest5
       case hy5=>(intro w hSw;(try dsimp only at hSw);have hcc:=(cells6 hSw.1).2.2.2.2.1;(try go_split_ands);go_simp;first | done | with_reducible rfl)
       (try simp only[List.getElem_toArray]);(try simp only[List.getElem_cons_succ]);(try simp only[List.getElem_cons_zero]);(try simp only[Act.put]);(try simp only[List.setIfInBounds_toArray]);(try simp only[List.set_cons_succ]);(try simp only[List.set_cons_zero]);refine wpAnyH_take (i:=7) (v:= ?v6) rfl (by kernel_rfl) (by kernel_rfl) (by kernel_rfl) (fun _ _ _ h=>h) (Or.inl ⟨by rfl,?hy6⟩) hHeld ?rest6
       case hy6=>(intro w hSw;(try dsimp only at hSw);(try go_split_ands);go_simp;first | done | with_reducible rfl)
       (try simp only[List.getElem_toArray]);(try simp only[List.getElem_cons_succ]);(try simp only[List.getElem_cons_zero]);(try simp only[Act.put]);(try simp only[List.setIfInBounds_toArray]);(try simp only[List.set_cons_succ]);(try simp only[List.set_cons_zero]);refine wpAnyH_take (i:=8) (v:= ?v7) rfl (by kernel_rfl) (by kernel_rfl) (by kernel_rfl) (fun _ _ _ h=>h) (Or.inl ⟨by rfl,?hy7⟩) hHeld ?rest7
       case hy7=>(intro w hSw;(try dsimp only at hSw);(try go_split_ands);go_simp;first | done | with_reducible rfl)
       (try simp only[List.getElem_toArray]);(try simp only[List.getElem_cons_succ]);(try simp only[List.getElem_cons_zero]);(try simp only[Act.put]);(try simp only[List.setIfInBounds_toArray]);(try simp only[List.set_cons_succ]);(try simp only[List.set_cons_zero]);refine wpAnyH_ready (rs:= [2]) (by kernel_rfl) (by simp) ?_;refine AllReadyH.cons rfl (fun K hK=> ?_) AllReadyH.nil;go_simp;refine(its_y _ k.l k.most k.room HL.out HNL.out _ W10 S10.out.oldX (S10.out.g 0 rfl:DiskX k.l _ _ _).gives).mono ?_;rintro e W11 ⟨ao2,co2,rfl,hg,hb⟩;have S11:=Lib.hid ((S10.out.call hb).more (DiskX.firm _ _) hg);clear hb hHeld hg;go_wp2_with fail;refine hK.out _ _ ⟨(S11.out.at 0 rfl),k_disk (S11.out.at 0 rfl),trivial⟩ (fun hHeld=> ?_);clear hK K;(try simp only[List.getElem_toArray]);(try simp only[List.getElem_cons_succ]);(try simp only[List.getElem_cons_zero]);(try simp only[Act.put]);(try simp only[List.setIfInBounds_toArray]);(try simp only[List.set_cons_succ]);(try simp only[List.set_cons_zero]);refine wpAnyH_take (i:=9) (v:= ?v8) rfl (by kernel_rfl) (by kernel_rfl) (by kernel_rfl) (fun _ _ _ h=>h) (Or.inl ⟨by rfl,?hy8⟩) hHeld ?rest8
       case hy8=>(intro w hSw;(try dsimp only at hSw);(try go_split_ands);go_simp;first | done | with_reducible rfl)
       (try simp only[List.getElem_toArray]);(try simp only[List.getElem_cons_succ]);(try simp only[List.getElem_cons_zero]);(try simp only[Act.put]);(try simp only[List.setIfInBounds_toArray]);(try simp only[List.set_cons_succ]);(try simp only[List.set_cons_zero]);refine wpAnyH_ready (rs:= [10]) (by kernel_rfl) (by simp) ?_;refine AllReadyH.cons rfl (fun K hK=> ?_) AllReadyH.nil;rw[if_pos (by rfl)];refine wp_store_row 48 _ _ rfl _ rfl rfl (S11.out.at 1 rfl) rfl (by kernel_rfl) rfl ?_;intro W12 hb hg hs hn;have S12:=Lib.hid (S11.out.set 1 rfl hb hg hs hn);clear hb hg hs hn hHeld;refine hK.out _ _ ⟨(S12.out.at 0 rfl),k_disk (S12.out.at 0 rfl),trivial⟩ (fun hHeld=> ?_);clear hK K;(try simp only[List.getElem_toArray]);(try simp only[List.getElem_cons_succ]);(try simp only[List.getElem_cons_zero]);(try simp only[Act.put]);(try simp only[List.setIfInBounds_toArray]);(try simp only[List.set_cons_succ]);(try simp only[List.set_cons_zero]);refine wpAnyH_done (by kernel_rfl) ?_ _;go_wp2_with fail;refine bodyPost_ret (HRET.out _ _ _ (S12.out.at 1 rfl) rfl _ rfl) rfl ?_;exact⟨ao2,co2,ao3,cp3,ao4,cp4,rfl,S12.out.gX 5 rfl,S12.out.gX 3 rfl,S12.out.gX 4 rfl,S12.out.bel⟩
theorem cells10 {W:World}{b:Nat}{u0 u1 u2 u3 u4 u5 u6 u7 u8 u9:Value}{t:TypeId}{f:Nat × Nat}(h:W.heap[b]? = some (.cells #[u0,u1,u2,u3,u4,u5,u6,u7,u8,u9] t f)) :
 W.cell? ⟨b,0,none⟩=some u0∧W.cell? ⟨b,1,none⟩=some u1∧W.cell? ⟨b,2,none⟩=some u2∧W.cell? ⟨b,3,none⟩=some u3∧W.cell? ⟨b,4,none⟩=some u4∧W.cell? ⟨b,5,none⟩=some u5∧W.cell? ⟨b,6,none⟩=some u6∧W.cell? ⟨b,7,none⟩=some u7∧W.cell? ⟨b,8,none⟩=some u8∧W.cell? ⟨b,9,none⟩=some u9:=by
 refine⟨?_,?_,?_,?_,?_,?_,?_,?_,?_,?_⟩<;>(rw[Lib.cell_of_heap h];rfl)
end Go.Proofs.YtpbmbpefophlfaaGreatDoor
namespace Go.Proofs.YtpbmbpefophlfaaGreatDoor
open Go.RowKit Go.Shelf
attribute [local go_sem ↓] Go.wp_at_zero Go.wp_at_succ
theorem opd_next (ds:List DescL)(ino:Int){k:Nat}(hk:k<ds.length):opensD (ds.take (k+1)) ino=opensD (ds.take k) ino+if(decide (0<(ds[k]).refs) && decide ((ds[k]).ino=ino))then 1 else 0:=by
 unfold opensD;rw[List.take_succ_eq_append_getElem hk,List.countP_append,List.countP_singleton]
theorem opp_next (ps:List ProcL)(ino:Int){k:Nat}(hk:k<ps.length):opensP (ps.take (k+1)) ino=opensP (ps.take k) ino+if((ps[k]).live && decide ((ps[k]).cwd=ino))then 1 else 0:=by
 unfold opensP;rw[List.take_succ_eq_append_getElem hk,List.countP_append,List.countP_singleton]
theorem opd_le (ds:List DescL)(ino:Int):opensD ds ino≤ds.length:=List.countP_le_length
theorem opp_le (ps:List ProcL)(ino:Int):opensP ps ino≤ps.length:=List.countP_le_length
set_option maxRecDepth 100000 in
set_option maxHeartbeats 4000000 in
theorem ropens_c (X:Nat→Prop)(k:KernL)(ao ad af ap:Option Addr)(co cd cf cp:Nat)(w:World)(ino:Int)(hX:Old X w)(hD:DiskX k.l (.slice ao k.l.length co) X w)(hT:TabX k.t (.slice ad k.t.ds.length cd) (.slice af k.t.fs.length cf) X w)(hP:PsX k.ps (.slice ap k.ps.length cp) X w)(h1:k.t.ds.length≤1000)(h2:k.ps.length≤1000) :
 Calls Tryz.prog 31 #[.agg #[.slice ao k.l.length co, .int .i64 k.most, .int .i64 k.room, .slice ad k.t.ds.length cd, .slice af k.t.fs.length cf, .slice ap k.ps.length cp], .int .i64 ino] w fun e w'=>e = .returned (.int .i64 (opensN k ino))∧Below w.heap.size w w':=by
 have S0:=Lib.hid (Sf.start (G:= [DiskX k.l (.slice ao k.l.length co),TabX k.t (.slice ad k.t.ds.length cd) (.slice af k.t.fs.length cf),PsX k.ps (.slice ap k.ps.length cp)]) hX (th3 (DiskX.firm _ _) hD (TabX.firm _ _ _) hT (PsX.firm _ _) hP));have HA:=Lib.hid h1;have HB:=Lib.hid h2;clear hX hD hT hP h1 h2;go_enter Tryz.func31,Tryz.ntmps31;go_upto_region 1 with(fail);refine code_fresh1 ?_;intro W1 hb hA0 hs;have S1:=Lib.hid (S0.out.new1 hb hA0);clear hb hA0 hs;go_wp2_with fail;go_loop [5,6] (fun n i=>∃j:Nat,n = .int .i64 (opensD (k.t.ds.take j) ino:Nat)∧i = .int .i64 j∧j≤k.t.ds.length) (fun _ i=>k.t.ds.length-(RowKit.intOf i).toNat)
 case atStart=>exact⟨0,rfl,rfl,Nat.zero_le _⟩
 case round =>
  obtain⟨j,rfl,rfl,hj⟩:=hrel;have hl1:=HA.out;obtain⟨-, -, -,c3, -, -⟩:=cells6 (S1.out.at 0 rfl);by_cases hlt:j<k.t.ds.length
  · have iL1:decide (j<k.t.ds.length)=true:=decide_eq_true (by omega)
    have iM1:decide ((j:Int)<(k.t.ds.length:Int))=true:=decide_eq_true (by omega);(have j0:(0:Int)≤(j:Int):=by omega);(have j1:(j:Int)<(k.t.ds.length:Int):=by omega);have wj:IntKind.i64.wrap ((j:Int)+1)=(j:Int)+1:=Go.IntWalk.i64_in _ (by omega);obtain⟨b,off,ead,d0, -, -, -,d4, -⟩:=TabX.desc (S1.out.g 1 rfl) j hlt;subst ead;have H1:=Lib.hid (opd_next k.t.ds ino hlt);have hn1:=opd_le (k.t.ds.take j) ino;rw[List.length_take]at hn1;obtain⟨n,hn⟩ : ∃n,n=opensD (k.t.ds.take j) ino:=⟨_,rfl⟩;rw[←hn]at H1 hn1 ⊢;clear hn;obtain⟨y,hy⟩ : ∃y,y=k.t.ds[j]:=⟨_,rfl⟩;rw[←hy]at d0 d4 H1;clear hy;have wn:IntKind.i64.wrap ((n:Int)+1)=(n:Int)+1:=Go.IntWalk.i64_in _ (by omega);by_cases h1:0<y.refs
    · have i1:decide (0<y.refs)=true:=decide_eq_true h1
      by_cases h2:y.ino=ino
      · have i21:(y.ino == ino)=true:=by simpa using h2
        have i22:decide (y.ino=ino)=true:=decide_eq_true h2;(have i23:(y.ino != ino)=false:=by simpa using h2);have HN:Hid (opensD (k.t.ds.take (j+1)) ino=n+1):=Lib.hid (by rw[H1.out];simp[*]);go_wp2_with fail;go_round
        case rel=>exact⟨j+1,by rw[HN.out];go_num,by go_num,hlt⟩
        case measure=>simp[RowKit.intOf];omega
      · have i21:(y.ino == ino)=false:=by simpa using h2
        have i22:decide (y.ino=ino)=false:=decide_eq_false h2;(have i23:(y.ino != ino)=true:=by simpa using h2);have HN:Hid (opensD (k.t.ds.take (j+1)) ino=n):=Lib.hid (by rw[H1.out];simp[*]);go_wp2_with fail;go_round
        case rel=>exact⟨j+1,by rw[HN.out],by go_num,hlt⟩
        case measure=>simp[RowKit.intOf];omega
    · have i1:decide (0<y.refs)=false:=decide_eq_false h1
      have HN:Hid (opensD (k.t.ds.take (j+1)) ino=n):=Lib.hid (by rw[H1.out];simp[*]);go_wp2_with fail;go_round
      case rel=>exact⟨j+1,by rw[HN.out],by go_num,hlt⟩
      case measure=>simp[RowKit.intOf];omega
  · have iL1:decide (j<k.t.ds.length)=false:=decide_eq_false (by omega)
    have iM1:decide ((j:Int)<(k.t.ds.length:Int))=false:=decide_eq_false (by omega);have ht:k.t.ds.take j=k.t.ds:=List.take_of_length_le (by omega);rw[ht];clear ht hlt;go_wp2_with fail;clear iL1 iM1 c3 hj;go_loop [5,7] (fun n i=>∃j:Nat,n = .int .i64 (opensD k.t.ds ino+opensP (k.ps.take j) ino:Nat)∧i = .int .i64 j∧j≤k.ps.length) (fun _ i=>k.ps.length-(RowKit.intOf i).toNat)
    case atStart=>exact⟨0,rfl,rfl,Nat.zero_le _⟩
    case round =>
     obtain⟨j,rfl,rfl,hj⟩:=hrel;have hl2:=HB.out;have hn0:=opd_le k.t.ds ino;obtain⟨-, -, -, -, -,c5⟩:=cells6 (S1.out.at 0 rfl);by_cases hlt:j<k.ps.length
     · have iL1:decide (j<k.ps.length)=true:=decide_eq_true (by omega)
       have iM1:decide ((j:Int)<(k.ps.length:Int))=true:=decide_eq_true (by omega);(have j0:(0:Int)≤(j:Int):=by omega);(have j1:(j:Int)<(k.ps.length:Int):=by omega);have wj:IntKind.i64.wrap ((j:Int)+1)=(j:Int)+1:=Go.IntWalk.i64_in _ (by omega);obtain⟨b,off,eap, -, -,d2,d3⟩:=PsX.proc (S1.out.g 2 rfl) j hlt;subst eap;have H1:=Lib.hid (opp_next k.ps ino hlt);have hn1:=opp_le (k.ps.take j) ino;rw[List.length_take]at hn1;obtain⟨n,hn⟩ : ∃n,n=opensP (k.ps.take j) ino:=⟨_,rfl⟩;rw[←hn]at H1 hn1 ⊢;clear hn;obtain⟨m,hm⟩ : ∃m,m=opensD k.t.ds ino:=⟨_,rfl⟩;rw[←hm]at hn0 ⊢;clear hm;obtain⟨y,hy⟩ : ∃y,y=k.ps[j]:=⟨_,rfl⟩;rw[←hy]at d2 d3 H1;clear hy;have wn:IntKind.i64.wrap (((m+n:Nat):Int)+1)=((m+n:Nat):Int)+1:=Go.IntWalk.i64_in _ (by omega);have wn2:IntKind.i64.wrap ((m:Int)+(n:Int)+1)=(m:Int)+(n:Int)+1:=Go.IntWalk.i64_in _ (by omega);obtain⟨lv,hlv⟩ : ∃f,f=y.live:=⟨_,rfl⟩;rw[←hlv]at d3 H1;clear hlv
       cases lv with
       | true =>
          by_cases h2:y.cwd=ino
          · have i21:(y.cwd == ino)=true:=by simpa using h2
            have i22:decide (y.cwd=ino)=true:=decide_eq_true h2;(have i23:(y.cwd != ino)=false:=by simpa using h2);have HN:Hid (opensP (k.ps.take (j+1)) ino=n+1):=Lib.hid (by rw[H1.out];simp[*]);go_wp2_with fail;go_round
            case rel=>exact⟨j+1,by rw[HN.out];go_num,by go_num,hlt⟩
            case measure=>simp[RowKit.intOf];omega
          · have i21:(y.cwd == ino)=false:=by simpa using h2
            have i22:decide (y.cwd=ino)=false:=decide_eq_false h2;(have i23:(y.cwd != ino)=true:=by simpa using h2);have HN:Hid (opensP (k.ps.take (j+1)) ino=n):=Lib.hid (by rw[H1.out];simp[*]);go_wp2_with fail;go_round
            case rel=>exact⟨j+1,by rw[HN.out],by go_num,hlt⟩
            case measure=>simp[RowKit.intOf];omega
       | false =>
          have HN:Hid (opensP (k.ps.take (j+1)) ino=n):=Lib.hid (by rw[H1.out];simp[*]);go_wp2_with fail;go_round
          case rel=>exact⟨j+1,by rw[HN.out],by go_num,hlt⟩
          case measure=>simp[RowKit.intOf];omega
     · have iL1:decide (j<k.ps.length)=false:=decide_eq_false (by omega)
       have iM1:decide ((j:Int)<(k.ps.length:Int))=false:=decide_eq_false (by omega);have ht:k.ps.take j=k.ps:=List.take_of_length_le (by omega);rw[ht];clear ht hlt;go_wp2_with fail;go_ret;exact⟨rfl,S1.out.bel⟩
end Go.Proofs.YtpbmbpefophlfaaGreatDoor
namespace Go.Proofs.YtpbmbpefophlfaaGreatDoor
open Go.RowKit Go.Shelf Go.Lib Go.Extern.Stop Go.Stop Go.Extern
abbrev belowV (n:Int):Value:= .iface 269 (.int .i64 n)
abbrev unmetV (p:ByteArray)(c:Value):Value:= .iface 262 (.agg #[.string p,c])
abbrev sentV (a:Addr):Value:= .iface 344 (.pointer (some a))
end Go.Proofs.YtpbmbpefophlfaaGreatDoor
namespace Go.Proofs.YtpbmbpefophlfaaGreatDoor
open Go.RowKit Go.Shelf
abbrev codes:List Nat:= [1,2,3,4,5,6,7,9,11,15]
structure Sent (S:Nat→Addr) (W:World):Prop where
 e1:W.cell? ⟨6,0,none⟩=some (sentV (S 1))
 e2:W.cell? ⟨1,0,none⟩=some (sentV (S 2))
 e3:W.cell? ⟨7,0,none⟩=some (sentV (S 3))
 e4:W.cell? ⟨4,0,none⟩=some (sentV (S 4))
 e5:W.cell? ⟨8,0,none⟩=some (sentV (S 5))
 e6:W.cell? ⟨5,0,none⟩=some (sentV (S 6))
 e7:W.cell? ⟨3,0,none⟩=some (sentV (S 7))
 e9:W.cell? ⟨2,0,none⟩=some (sentV (S 9))
 e11:W.cell? ⟨9,0,none⟩=some (sentV (S 11))
 e15:W.cell? ⟨10,0,none⟩=some (sentV (S 15))
 blk : ∀k∈codes,∃c t,W.heap[(S k).block]? = some (.cells c t (0,0))
 inj : ∀j∈codes,∀k∈codes,j≠k→S j≠S k
 err:W.cell? ⟨0,0,none⟩=some errTypeV
theorem Sent.keep {S:Nat→Addr}{W W':World}(h:Sent S W)(hb:Below W.heap.size W W'):Sent S W' where
 e1:=(hb.cell (p:=⟨6,0,none⟩) (World.block_lt_of_cell? W _ h.e1)).trans h.e1
 e2:=(hb.cell (p:=⟨1,0,none⟩) (World.block_lt_of_cell? W _ h.e2)).trans h.e2
 e3:=(hb.cell (p:=⟨7,0,none⟩) (World.block_lt_of_cell? W _ h.e3)).trans h.e3
 e4:=(hb.cell (p:=⟨4,0,none⟩) (World.block_lt_of_cell? W _ h.e4)).trans h.e4
 e5:=(hb.cell (p:=⟨8,0,none⟩) (World.block_lt_of_cell? W _ h.e5)).trans h.e5
 e6:=(hb.cell (p:=⟨5,0,none⟩) (World.block_lt_of_cell? W _ h.e6)).trans h.e6
 e7:=(hb.cell (p:=⟨3,0,none⟩) (World.block_lt_of_cell? W _ h.e7)).trans h.e7
 e9:=(hb.cell (p:=⟨2,0,none⟩) (World.block_lt_of_cell? W _ h.e9)).trans h.e9
 e11:=(hb.cell (p:=⟨9,0,none⟩) (World.block_lt_of_cell? W _ h.e11)).trans h.e11
 e15:=(hb.cell (p:=⟨10,0,none⟩) (World.block_lt_of_cell? W _ h.e15)).trans h.e15
 blk:=fun k hk=>by
  obtain⟨c,t,hc⟩:=h.blk k hk;exact⟨c,t,(hb.block _ (Array.getElem?_eq_some_iff.1 hc).1).trans hc⟩
 inj:=h.inj
 err:=(hb.cell (p:=⟨0,0,none⟩) (World.block_lt_of_cell? W _ h.err)).trans h.err
def ErrIs (S:Nat→Addr)(n:Int)(v:Value):Prop :=
 (n=0∧v = .nilIface)∨(n≠0∧∃p,v=unmetV p (belowV n))∨(∃k∈codes,n=(k:Int)∧∃p,v=unmetV p (sentV (S k)))
theorem ErrIs.nil {S:Nat→Addr}:ErrIs S 0 .nilIface:= .inl ⟨rfl,rfl⟩
theorem ErrIs.sent {S:Nat→Addr}(k:Nat)(hk:k∈codes)(p:ByteArray):ErrIs S (k:Int) (unmetV p (sentV (S k))):= .inr (.inr ⟨k,hk,rfl,p,rfl⟩)
theorem ErrIs.below {S:Nat→Addr}{n:Int}(h:n≠0)(p:ByteArray):ErrIs S n (unmetV p (belowV n)):= .inr (.inl ⟨h,p,rfl⟩)
theorem code_pos {k:Nat}(h:k∈codes):k≠0:=by rintro rfl;revert h;decide
theorem ErrIs.form {S:Nat→Addr}{n:Int}{v:Value}(h:ErrIs S n v):(n=0∧v = .nilIface)∨(n≠0∧∃p c,v=unmetV p c):=by
 rcases h with h | ⟨h,p,rfl⟩ | ⟨k,hk,rfl,p,rfl⟩
 · exact .inl h
 · exact .inr ⟨h,p,_,rfl⟩
 · exact .inr ⟨by have:=code_pos hk;omega,p,_,rfl⟩
end Go.Proofs.YtpbmbpefophlfaaGreatDoor
namespace Go.Proofs.YtpbmbpefophlfaaGreatDoor
open Go.RowKit Go.Shelf
attribute [local go_sem ↓] Go.wp_at_zero Go.wp_at_succ
structure PlaceL where
 who:Int
 path:Str
 s:SpotL
 dn:NodeL
 nn:NodeL
abbrev pcells (p:PlaceL)(vd vn:Value):Array Value :=
 #[.int .i64 p.who, .string (bs p.path), .int .i64 p.s.dir, .string (bs p.s.name), .int .i64 p.s.ino, .bool p.s.slash, .int .i64 p.dn.kind, .int .i64 p.dn.mode, .int .i64 p.dn.owner, .int .i64 p.dn.links, .int .i64 p.dn.opn, .int .i64 p.dn.up, .string (bs p.dn.data),vd,
  .int .i64 p.nn.kind, .int .i64 p.nn.mode, .int .i64 p.nn.owner, .int .i64 p.nn.links, .int .i64 p.nn.opn, .int .i64 p.nn.up, .string (bs p.nn.data),vn]
end Go.Proofs.YtpbmbpefophlfaaGreatDoor
namespace Go.Proofs.YtpbmbpefophlfaaGreatDoor
open Go.RowKit Go.Shelf
attribute [local go_sem ↓] Go.wp_at_zero Go.wp_at_succ
def TellsE (S:Nat→Addr)(n:Int)(e:Ending)(w w':World):Prop:=∃v,e = .returned v∧ErrIs S n v∧Below w.heap.size w w'
theorem TellsE.of {S:Nat→Addr}{n m:Int}{v:Value}{w w':World}(h:m=n)(hv:ErrIs S n v)(hb:Below w.heap.size w w'):TellsE S m (.returned v) w w':=⟨v,rfl,by rw[h];exact hv,hb⟩
end Go.Proofs.YtpbmbpefophlfaaGreatDoor
