import Derived.Test.YtbjkkijickbppaaGreatDoorR47
import Derived.Deep.RegionHeld3
import Derived.Deep.DeepCutAuto
import Derived.ChangeSlices
import Derived.OpenShut
import Derived.Below
import Derived.Test.YtbjkkijickbppaaGreatDoorR11
import Derived.Deep.Slices
import Derived.Deep.Fields
import Derived.Test.YtbjkkijickbppaaGreatDoorR13
import Derived.Test.YtbjkkijickbppaaGreatDoorR33
namespace Go.Proofs.YtbjkkijickbppaaGreatDoor
open Go.RowKit Go.Shelf
attribute [local go_sem ↓] Go.wp_at_zero Go.wp_at_succ
set_option maxRecDepth 100000 in
set_option maxHeartbeats 4000000 in
theorem shared12_l (S:Nat→Addr)(k:KernL)(ao ad af ap:Option Addr)(co cd cf cp:Nat)(w:World)(hE:Env S w)(hD:DiskX k.l (.slice ao k.l.length co) (fun _=>False) w)(hT:TabX k.t (.slice ad k.t.ds.length cd) (.slice af k.t.fs.length cf) (fun _=>False) w)(hP:PsX k.ps (.slice ap k.ps.length cp) (fun _=>False) w)(hf:FitD k.l)(hpos:PosD k.t.ds)(p fd:Int)(a b:UInt8)(_hp:InI p)(hfd:InI fd) :
 Calls Tryz.prog 3 #[.agg #[.slice ao k.l.length co, .int .i64 k.most, .int .i64 k.room, .slice ad k.t.ds.length cd, .slice af k.t.fs.length cf, .slice ap k.ps.length cp], .int .i64 p, .int .i64 fd, .int .u8 a.toNat, .int .u8 b.toNat] w fun e w'=>e = .returned (.bool true)∧Below w.heap.size w w':=by
 have S0:=Lib.hid (Sf.start (w:=w) (X:=fun _=>False) (G:= [DiskX k.l (.slice ao k.l.length co),TabX k.t (.slice ad k.t.ds.length cd) (.slice af k.t.fs.length cf),PsX k.ps (.slice ap k.ps.length cp),EnvX S]) (fun _ h=>h.elim) (th4 (DiskX.firm _ _) hD (TabX.firm _ _ _) hT (PsX.firm _ _) hP (EnvX.firm _) (EnvX.none hE)));(try dsimp only[List.cons_append,List.nil_append,List.set_cons_succ,List.set_cons_zero]at S0);have HFD:=Lib.hid hf;have HPOS:=Lib.hid hpos;clear hD hT hP hE hf hpos;have HFI:=Lib.hid hfd;(have a0:(0:Int)≤(a.toNat:Int):=by omega);(have a1:(a.toNat:Int)≤255:=by have:=a.toNat_lt;omega);(have b0:(0:Int)≤(b.toNat:Int):=by omega);(have b1:(b.toNat:Int)≤255:=by have:=b.toNat_lt;omega);have ab:IntKind.i64.wrap ((a.toNat:Int)+(b.toNat:Int))=(a.toNat:Int)+(b.toNat:Int):=Go.IntWalk.i64_in _ (by omega);clear _hp hfd;go_enter Tryz.func3,Tryz.ntmps3;go_upto_region 1 with(fail);refine code_fresh1 ?_;intro W1 hb hA0 hs;have S1:=Lib.hid (S0.out.new1 hb hA0);(try dsimp only[List.cons_append,List.nil_append,List.set_cons_succ,List.set_cons_zero]at S1);(try clear S0);clear hb hA0 hs;have h_k:=(S1.out.at 0 rfl);go_wp2_with (first | (refine wpList_load_row rfl 31 _ rfl _ rfl 31 _ (0,0) _ h_k Tryz.underlying31 rfl (by kernel_rfl) ?_));refine(sound_c _ k _ _ _ _ _ _ _ _ W1 S1.out.oldX (S1.out.g 0 rfl) (S1.out.g 1 rfl) (S1.out.g 2 rfl) HFD.out).mono ?_;rintro e W2 ⟨b,rfl,hsm,hb⟩;clear h_k;have S2:=Lib.hid (S1.out.call hb);(try dsimp only[List.cons_append,List.nil_append,List.set_cons_succ,List.set_cons_zero]at S2)
 (try clear S1);have HSM:=Lib.hid hsm;clear hsm hb
 cases b with
 | false =>
    go_upto_region 2 with(fail);go_wp2_with fail;refine(shown_c _ S W2 S2.out.oldX (S2.out.g 3 rfl)).mono ?_;rintro e W3 ⟨rfl,hb⟩;have S3:=Lib.hid (S2.out.call hb);(try dsimp only[List.cons_append,List.nil_append,List.set_cons_succ,List.set_cons_zero]at S3);clear hb;go_wp2_with fail;go_ret;exact⟨by first | rfl | simp,S3.out.bel⟩
 | true =>
    have HS:=Lib.hid (HSM.out rfl).1;have HR:=Lib.hid (HSM.out rfl).2;have HK:=Lib.hid (⟨HR.out,HS.out.siz,HPOS.out⟩:KSt 100 k);clear HSM;go_wp2_with fail;refine(shown_c _ S W2 S2.out.oldX (S2.out.g 3 rfl)).mono ?_;rintro e W3 ⟨rfl,hb⟩;have S3:=Lib.hid (S2.out.call hb);(try dsimp only[List.cons_append,List.nil_append,List.set_cons_succ,List.set_cons_zero]at S3);(try clear S2);clear hb;go_upto_region 3 with(fail);have HCD:=Lib.hid (okDup HFI.out:CallOk (cDup fd));have HCX:=Lib.hid (okRead (a.toNat:Int) HFI.out:CallOk (cRead fd a.toNat));have HCZ:=Lib.hid (okRead ((a.toNat:Int)+(b.toNat:Int)) HFI.out:CallOk (cRead fd ((a.toNat:Int)+(b.toNat:Int))));have h_k:=(S3.out.at 0 rfl);go_wp2_with (first | (refine wpList_load_row rfl 31 _ rfl _ rfl 31 _ (0,0) _ h_k Tryz.underlying31 rfl (by kernel_rfl) ?_));refine(do_c _ S k p (cDup fd) _ _ _ _ _ _ _ _ W3 S3.out.oldX (S3.out.g 0 rfl) (S3.out.g 1 rfl) (S3.out.g 2 rfl) (S3.out.g 3 rfl) HK.out (by decide) HCD.out).mono ?_;rintro e W4 ⟨ao2,co2,ad2,cd2,af2,cf2,ap2,cp2,ar2,cr2,rfl,hD,hT,hP,hL,hb⟩;clear h_k;obtain⟨R,hR⟩ : ∃V0,V0=doK k p (cDup fd):=⟨_,rfl⟩;rw[←hR]at hD hT hP hL ⊢;have HRX:=Lib.hid hR;clear hR;have HKR:=Lib.hid (HK.out.of (by decide) p HCD.out HRX.out);have HCY:=Lib.hid (okRead (b.toNat:Int) (num_in HK.out p HCD.out HRX.out):CallOk (cRead R.2.n b.toNat));have S4:=Lib.hid ((((S3.out.call hb).more (DiskX.firm _ _) hD).more (TabX.firm _ _ _) hT).more (PsX.firm _ _) hP);(try dsimp only[List.cons_append,List.nil_append,List.set_cons_succ,List.set_cons_zero]at S4)
    (try clear S3);clear hD hT hP hL hb;go_upto_region 4 with(first | (refine wpList_fresh1 ?_;intro W5 hb hn hs;have S5:=Lib.hid (S4.out.new1 hb hn);(try dsimp only[List.cons_append,List.nil_append,List.set_cons_succ,List.set_cons_zero]at S5);have h_l:=S5.out.at 1 rfl;clear hb hn hs) | (refine wpList_fresh1 ?_;intro W6 hb hn hs;have S6:=Lib.hid (S5.out.new1 hb hn);(try dsimp only[List.cons_append,List.nil_append,List.set_cons_succ,List.set_cons_zero]at S6);have h_l:=S6.out.at 1 rfl;have h_r:=S6.out.at 2 rfl;clear hb hn hs) | (refine wpList_store_row rfl 31 _ _ rfl _ rfl rfl h_l rfl (by kernel_rfl) rfl ?_;intro W7 hb hg hs hn;have S7:=Lib.hid (S6.out.set 1 rfl hb hg hs hn);(try dsimp only[List.cons_append,List.nil_append,List.set_cons_succ,List.set_cons_zero]at S7);clear hb hg hs hn;have h_r:=S7.out.at 2 rfl) | (refine wpList_store_row rfl 39 _ _ rfl _ rfl rfl h_r rfl (by kernel_rfl) rfl ?_;intro W8 hb hg hs hn;have S8:=Lib.hid (S7.out.set 2 rfl hb hg hs hn);(try dsimp only[List.cons_append,List.nil_append,List.set_cons_succ,List.set_cons_zero]at S8);clear hb hg hs hn));(try clear S5);(try clear S4);(try clear S6);(try clear S7);clear h_l h_r;have h_l:=(S8.out.at 1 rfl);go_wp2_with (first | (refine wpList_load_row rfl 31 _ rfl _ rfl 31 _ (0,0) _ h_l Tryz.underlying31 rfl (by kernel_rfl) ?_));refine(do_c _ S R.1 p (cRead fd a.toNat) _ _ _ _ _ _ _ _ W8 S8.out.oldX (S8.out.g 4 rfl) (S8.out.g 5 rfl) (S8.out.g 6 rfl) (S8.out.g 3 rfl) HKR.out (by decide) HCX.out).mono ?_
    rintro e W9 ⟨ao3,co3,ad3,cd3,af3,cf3,ap3,cp3,ar3,cr3,rfl,hD,hT,hP,hL,hb⟩;clear h_l;obtain⟨Q,hQ⟩ : ∃V0,V0=doK R.1 p (cRead fd a.toNat):=⟨_,rfl⟩;rw[←hQ]at hD hT hP hL ⊢;have HQ:=Lib.hid hQ;clear hQ;have HKQ:=Lib.hid (HKR.out.of (by decide) p HCX.out HQ.out);have S9:=Lib.hid ((((S8.out.call hb).more (DiskX.firm _ _) hD).more (TabX.firm _ _ _) hT).more (PsX.firm _ _) hP);(try dsimp only[List.cons_append,List.nil_append,List.set_cons_succ,List.set_cons_zero]at S9);(try clear S8);clear hD hT hP hL hb;have h_l:=(S9.out.at 1 rfl);go_upto_region 5 with(first | (refine wpList_fresh1 ?_;intro W10 hb hn hs;have S10:=Lib.hid (S9.out.new1 hb hn);(try dsimp only[List.cons_append,List.nil_append,List.set_cons_succ,List.set_cons_zero]at S10);have h_l:=S10.out.at 1 rfl;have h_x:=S10.out.at 3 rfl;clear hb hn hs) | (refine wpList_store_row rfl 31 _ _ rfl _ rfl rfl h_l rfl (by kernel_rfl) rfl ?_;intro W11 hb hg hs hn;have S11:=Lib.hid (S10.out.set 1 rfl hb hg hs hn);(try dsimp only[List.cons_append,List.nil_append,List.set_cons_succ,List.set_cons_zero]at S11);clear hb hg hs hn;have h_x:=S11.out.at 3 rfl) | (refine wpList_store_row rfl 39 _ _ rfl _ rfl rfl h_x rfl (by kernel_rfl) rfl ?_;intro W12 hb hg hs hn;have S12:=Lib.hid (S11.out.set 3 rfl hb hg hs hn);(try dsimp only[List.cons_append,List.nil_append,List.set_cons_succ,List.set_cons_zero]at S12);clear hb hg hs hn));(try clear S10);(try clear S9);(try clear S11);clear h_l h_x
    have h_l:=(S12.out.at 1 rfl);obtain⟨-,r1, -, -, -, -, -, -, -, -⟩:=cells10 (S12.out.at 2 rfl);go_wp2_with (first | (refine wpList_load_row rfl 31 _ rfl _ rfl 31 _ (0,0) _ h_l Tryz.underlying31 rfl (by kernel_rfl) ?_));refine(do_c _ S Q.1 p (cRead R.2.n b.toNat) _ _ _ _ _ _ _ _ W12 S12.out.oldX (S12.out.g 7 rfl) (S12.out.g 8 rfl) (S12.out.g 9 rfl) (S12.out.g 3 rfl) HKQ.out (by decide) HCY.out).mono ?_;rintro e W13 ⟨ao4,co4,ad4,cd4,af4,cf4,ap4,cp4,ar4,cr4,rfl,hD,hT,hP,hL,hb⟩;clear h_l r1;obtain⟨Y,hY⟩ : ∃V0,V0=doK Q.1 p (cRead R.2.n b.toNat):=⟨_,rfl⟩;rw[←hY]at hD hT hP hL ⊢;have HY:=Lib.hid hY;clear hY;have S13:=Lib.hid (S12.out.call hb);(try dsimp only[List.cons_append,List.nil_append,List.set_cons_succ,List.set_cons_zero]at S13);(try clear S12);clear hD hT hP hL hb;go_upto_region 6 with(first | (refine wpList_fresh1 ?_;intro W14 hb hn hs;have S14:=Lib.hid (S13.out.new1 hb hn);(try dsimp only[List.cons_append,List.nil_append,List.set_cons_succ,List.set_cons_zero]at S14);have h_l2:=S14.out.at 4 rfl;clear hb hn hs) | (refine wpList_fresh1 ?_;intro W15 hb hn hs;have S15:=Lib.hid (S14.out.new1 hb hn);(try dsimp only[List.cons_append,List.nil_append,List.set_cons_succ,List.set_cons_zero]at S15);have h_l2:=S15.out.at 4 rfl;have h_y:=S15.out.at 5 rfl;clear hb hn hs) | (refine wpList_store_row rfl 31 _ _ rfl _ rfl rfl h_l2 rfl (by kernel_rfl) rfl ?_;intro W16 hb hg hs hn;have S16:=Lib.hid (S15.out.set 4 rfl hb hg hs hn);(try dsimp only[List.cons_append,List.nil_append,List.set_cons_succ,List.set_cons_zero]at S16);clear hb hg hs hn;have h_y:=S16.out.at 5 rfl) | (refine wpList_store_row rfl 39 _ _ rfl _ rfl rfl h_y rfl (by kernel_rfl) rfl ?_;intro W17 hb hg hs hn;have S17:=Lib.hid (S16.out.set 5 rfl hb hg hs hn);(try dsimp only[List.cons_append,List.nil_append,List.set_cons_succ,List.set_cons_zero]at S17);clear hb hg hs hn))
    (try clear S14);(try clear S13);(try clear S15);(try clear S16);clear h_l2 h_y;have h_k:=(S17.out.at 0 rfl);go_wp2_with (first | (refine wpList_load_row rfl 31 _ rfl _ rfl 31 _ (0,0) _ h_k Tryz.underlying31 rfl (by kernel_rfl) ?_));refine(do_c _ S k p (cRead fd ((a.toNat:Int)+(b.toNat:Int))) _ _ _ _ _ _ _ _ W17 S17.out.oldX (S17.out.g 0 rfl) (S17.out.g 1 rfl) (S17.out.g 2 rfl) (S17.out.g 3 rfl) HK.out (by decide) HCZ.out).mono ?_;rintro e W18 ⟨ao5,co5,ad5,cd5,af5,cf5,ap5,cp5,ar5,cr5,rfl,hD,hT,hP,hL,hb⟩;clear h_k;obtain⟨Z,hZ⟩ : ∃V0,V0=doK k p (cRead fd ((a.toNat:Int)+(b.toNat:Int))):=⟨_,rfl⟩;rw[←hZ]at hD hT hP hL ⊢;have HZ:=Lib.hid hZ;clear hZ;have S18:=Lib.hid (S17.out.call hb);(try dsimp only[List.cons_append,List.nil_append,List.set_cons_succ,List.set_cons_zero]at S18);(try clear S17);clear hD hT hP hL hb;go_upto_region 7 with(first | (refine wpList_fresh1 ?_;intro W19 hb hn hs;have S19:=Lib.hid (S18.out.new1 hb hn);(try dsimp only[List.cons_append,List.nil_append,List.set_cons_succ,List.set_cons_zero]at S19);have h_l3:=S19.out.at 6 rfl;clear hb hn hs) | (refine wpList_fresh1 ?_;intro W20 hb hn hs;have S20:=Lib.hid (S19.out.new1 hb hn);(try dsimp only[List.cons_append,List.nil_append,List.set_cons_succ,List.set_cons_zero]at S20);have h_l3:=S20.out.at 6 rfl;have h_z:=S20.out.at 7 rfl;clear hb hn hs) | (refine wpList_store_row rfl 31 _ _ rfl _ rfl rfl h_l3 rfl (by kernel_rfl) rfl ?_;intro W21 hb hg hs hn;have S21:=Lib.hid (S20.out.set 6 rfl hb hg hs hn);(try dsimp only[List.cons_append,List.nil_append,List.set_cons_succ,List.set_cons_zero]at S21);clear hb hg hs hn;have h_z:=S21.out.at 7 rfl) | (refine wpList_store_row rfl 39 _ _ rfl _ rfl rfl h_z rfl (by kernel_rfl) rfl ?_;intro W22 hb hg hs hn;have S22:=Lib.hid (S21.out.set 7 rfl hb hg hs hn);(try dsimp only[List.cons_append,List.nil_append,List.set_cons_succ,List.set_cons_zero]at S22);clear hb hg hs hn))
    (try clear S19);(try clear S18);(try clear S20);(try clear S21);clear h_l3 h_z;clear a0 a1 b0 b1 ab;obtain⟨n,hn⟩ : ∃n,n=R.2.e:=⟨_,rfl⟩;have HNE:=Lib.hid hn;clear hn;rw[←HNE.out]at S22;obtain⟨m,hm⟩ : ∃n,n=Q.2.e:=⟨_,rfl⟩;have HME:=Lib.hid hm;clear hm;rw[←HME.out]at S22;by_cases h0:n=0
    · have i01:(n == 0)=true:=by simpa using h0
      have i02:decide (n=0)=true:=decide_eq_true h0;(have i03:(n != 0)=false:=by simpa using h0);have HN0:=Lib.hid h0;clear h0;by_cases h0:m=0
      · have j01:(m == 0)=true:=by simpa using h0
        have j02:decide (m=0)=true:=decide_eq_true h0;(have j03:(m != 0)=false:=by simpa using h0);have HM0:=Lib.hid h0;clear h0;have HLW:=Lib.hid (law_shared HR.out p fd a.toNat b.toNat (d:=cDup fd) (x:=cRead fd a.toNat) (y:=cRead R.2.n b.toNat) (z:=cRead fd ((a.toNat:Int)+(b.toNat:Int))) ⟨rfl,rfl⟩ ⟨rfl,rfl,rfl⟩ ⟨rfl,by rw[HRX.out];rfl,rfl⟩ ⟨rfl,rfl,rfl⟩ (by rw[←HRX.out,←HNE.out];exact HN0.out) (by rw[←HRX.out,←HQ.out,←HME.out];exact HM0.out));rw[←HRX.out,←HQ.out,←HY.out,←HZ.out]at HLW;obtain⟨hw1,hw2,hw3⟩:=HLW.out;clear HLW;obtain⟨e,he⟩ : ∃n,n=Y.2.e:=⟨_,rfl⟩;have HYE:=Lib.hid he;clear he;rw[←HYE.out]at S22;obtain⟨f,hf⟩ : ∃n,n=Z.2.e:=⟨_,rfl⟩;have HZE:=Lib.hid hf;clear hf;rw[←HZE.out]at S22;obtain⟨s,hs⟩ : ∃n,n=Q.2.s:=⟨_,rfl⟩;have HQS:=Lib.hid hs;clear hs;rw[←HQS.out]at S22;obtain⟨t,ht⟩ : ∃n,n=Y.2.s:=⟨_,rfl⟩;have HYS:=Lib.hid ht;clear ht;rw[←HYS.out]at S22;rw[←HYE.out]at hw1;rw[←HZE.out]at hw2;rw[←HQS.out,←HYS.out]at hw3;rw[hw3]at S22;(have hsl: ¬9223372036854775807<s.length+t.length:=by have h1:=congrArg List.length hw3;rw[List.length_append]at h1;have h2:Z.2.s.length≤1200:=(by rw[HZ.out];exact read_short HK.out p _ rfl);omega);(have y01:(e == 0)=true:=by simpa using hw1);have y02:decide (e=0)=true:=decide_eq_true hw1;(have y03:(e != 0)=false:=by simpa using hw1);(have z01:(f == 0)=true:=by simpa using hw2);have z02:decide (f=0)=true:=decide_eq_true hw2
        (have z03:(f != 0)=false:=by simpa using hw2);clear hw1 hw2 hw3;have hcat:bs s++bs t=bs (s++t):=bs_app s t;obtain⟨r0, -, -, -, -, -, -, -, -, -⟩:=cells10 (S22.out.at 2 rfl);obtain⟨x0, -,x2, -, -, -, -, -, -, -⟩:=cells10 (S22.out.at 3 rfl);obtain⟨y0, -,y2, -, -, -, -, -, -, -⟩:=cells10 (S22.out.at 5 rfl);obtain⟨z0, -,z2, -, -, -, -, -, -, -⟩:=cells10 (S22.out.at 7 rfl);go_wp2_with fail;go_ret;exact⟨by first | rfl | simp,S22.out.bel⟩
      · have j01:(m == 0)=false:=by simpa using h0
        have j02:decide (m=0)=false:=decide_eq_false h0;(have j03:(m != 0)=true:=by simpa using h0);clear h0;obtain⟨r0, -, -, -, -, -, -, -, -, -⟩:=cells10 (S22.out.at 2 rfl);obtain⟨x0, -, -, -, -, -, -, -, -, -⟩:=cells10 (S22.out.at 3 rfl);go_wp2_with fail;go_ret;exact⟨by first | rfl | simp,S22.out.bel⟩
    · have i01:(n == 0)=false:=by simpa using h0
      have i02:decide (n=0)=false:=decide_eq_false h0;(have i03:(n != 0)=true:=by simpa using h0);clear h0;obtain⟨r0, -, -, -, -, -, -, -, -, -⟩:=cells10 (S22.out.at 2 rfl);go_wp2_with fail;go_ret;exact⟨by first | rfl | simp,S22.out.bel⟩
end Go.Proofs.YtbjkkijickbppaaGreatDoor
namespace Go.Proofs.YtbjkkijickbppaaGreatDoor
open Go.ChangeShapes Go.WideShapes Go.RowKit
section
variable {H:Type} {enc:TypeId × Value→H} {P:Program}
def closedTypes (P:Program)(L:List TypeId):Bool:=L.all fun t=>match P.underlying t with
 | some (.slice e)=>(P.cellsOf e != 0) && L.contains e
 | some (.pointer e)=>L.contains e
 | some (.struct fs)=>fs.toList.all fun f=>L.contains f.type
 | some (.array _ e)=>L.contains e
 | some (.map _ e)=>L.contains e
 | _=>true
theorem mapM_keep {α β:Type}{f g:α→Option β} : ∀ {l:List α} {ys:List β},(∀a∈l,∀y,f a=some y→g a=some y)→l.mapM f=some ys→l.mapM g=some ys:=by
 intro l
 induction l with
 | nil=>intro ys _ h;simpa using h
 | cons a l ih =>
    intro ys hfg h;rw[List.mapM_cons]at h ⊢
    cases hfa:f a with
    | none=>rw[hfa]at h;cases h
    | some b =>
       rw[hfa]at h
       cases hl:l.mapM f with
       | none=>rw[hl]at h;cases h
       | some bs =>
          rw[hl]at h;rw[hfg a (by simp) b hfa,ih (fun x hx=>hfg x (by simp[hx])) hl];exact h
theorem cell_lt {W:World}{p:Addr}{v:Value}(h:W.cell? p=some v):p.block<W.heap.size:=by
 unfold World.cell? at h;rcases Nat.lt_or_ge p.block W.heap.size with h1 | h1
 · exact h1
 · rw[Array.getElem?_eq_none h1]at h;simp at h
theorem cells_keep {W W':World}(hb:Below W.heap.size W W'){a:Addr}{n:Nat}{cs:List Value}(h:W.cells? 0 a n=some cs):W'.cells? 0 a n=some cs:=by
 unfold World.cells? at h ⊢;rw[if_pos (Nat.zero_le _)]at h ⊢;exact mapM_keep (fun i _ y hy=>(hb.cell (cell_lt hy)).trans hy) h
theorem cells_lt {W:World}{a:Addr}{n:Nat}{cs:List Value}(h:W.cells? 0 a n=some cs)(hn:n≠0):a.block<W.heap.size:=by
 obtain⟨_,hl,hi⟩:=World.cells?_some h;have h0:=hi 0 (by omega);rw[List.getElem?_eq_getElem (by omega)]at h0;have:=cell_lt h0;simpa[Addr.add]using this
theorem trod_keep {W W':World}(hb:Below W.heap.size W W')(L:List TypeId)(hL:closedTypes P L=true) :
 ∀(fuel:Nat) (t:TypeId),t∈L→∀(cs:List Value) (x:DataW H × List MemPlace),DataW.trod enc P W 0 (fun _=>true) true fuel t cs=some x →
  DataW.trod enc P W' 0 (fun b=>decide (b<W.heap.size)) true fuel t cs=some x:=by
 intro fuel
 induction fuel with
 | zero=>intro t _ cs x h;simp[DataW.trod]at h
 | succ n ih =>
    intro t ht cs x h;have hc:=List.all_eq_true.1 hL t ht;unfold DataW.trod at h ⊢;generalize P.underlying t=u at *;split at h
    case h_6 _ e a =>
     obtain⟨y,hy,rfl⟩:=Option.map_eq_some_iff.1 h;obtain⟨c,hc1,hc2⟩:=Option.bind_eq_some_iff.1 hy;refine Option.map_eq_some_iff.2 ⟨y,Option.bind_eq_some_iff.2 ⟨c,cells_keep hb hc1,?_⟩,rfl⟩;exact ih e (by simpa using hc) _ _ hc2
    case h_8 _ e a len cap =>
     simp only[Bool.and_eq_true,bne_iff_ne,ne_eq]at hc;obtain⟨hz,he⟩:=hc;have he':e∈L:=by simpa using he
     have each : ∀(i:Nat) y,(W.cells? 0 (a.add (i*P.cellsOf e)) (P.cellsOf e)).bind (DataW.trod enc P W 0 (fun _=>true) true n e)=some y →
      (W'.cells? 0 (a.add (i*P.cellsOf e)) (P.cellsOf e)).bind (DataW.trod enc P W' 0 (fun b=>decide (b<W.heap.size)) true n e)=some y:=by
       intro i y hy;obtain⟨c,hc1,hc2⟩:=Option.bind_eq_some_iff.1 hy;exact Option.bind_eq_some_iff.2 ⟨c,cells_keep hb hc1,ih e he' _ _ hc2⟩
     simp only at h ⊢;split at h
     · rename_i hcond
       rw[if_pos hcond];obtain⟨elems,h1,h2⟩:=Option.bind_eq_some_iff.1 h;simp only[if_true]at h2;obtain⟨rest,h3,h4⟩:=Option.map_eq_some_iff.1 h2;refine Option.bind_eq_some_iff.2 ⟨elems,mapM_keep (fun i _ y hy=>each i y hy) h1,Option.map_eq_some_iff.2 ⟨rest,?_,h4⟩⟩;by_cases hlt:a.block<W.heap.size
       · rw[if_pos (by simpa using hlt)]
         exact mapM_keep (fun i _ y hy=>each (len+i) y hy) h3
       · rw[if_neg (by simpa using hlt)]
         have hno:cap-len=0:=by
          rcases Nat.eq_zero_or_pos (cap-len)with h0 | h0
          · exact h0
          · exfalso
            obtain⟨m,hm⟩ : ∃m,cap-len=m+1:=⟨cap-len-1,by omega⟩;have hr:=mapM_some_get h3 0 0 (by simp[hm]);have hlen:=mapM_some_length h3;rw[List.getElem?_eq_getElem (by simp[hm]at hlen;omega)]at hr;obtain⟨c,hc1,_⟩:=Option.bind_eq_some_iff.1 hr;exact hlt (by have:=cells_lt hc1 hz;rwa [block_add]at this)
         rw[hno]at h3;simpa using h3
     · cases h
    case h_9 _ cs' fs =>
     split at h
     · rename_i hl
       rw[if_pos hl];obtain⟨xs,h1,h2⟩:=Option.map_eq_some_iff.1 h;refine Option.map_eq_some_iff.2 ⟨xs,mapM_keep (fun f hf y hy=>ih f.type ?_ _ _ hy) h1,h2⟩;have:=List.all_eq_true.1 hc f hf;simpa using this
     · cases h
    case h_10 _ cs' m e =>
     split at h
     · rename_i hl
       rw[if_pos hl];obtain⟨xs,h1,h2⟩:=Option.map_eq_some_iff.1 h;exact Option.map_eq_some_iff.2 ⟨xs,mapM_keep (fun i _ y hy=>ih e (by simpa using hc) _ _ hy) h1,h2⟩
     · cases h
    case h_14 _ k e b =>
     split at h
     · rename_i es clock hes
       have hlt:b<W.heap.size:=(Array.getElem?_eq_some_iff.1 hes).1;rw[hb.block b hlt,hes];simp only at h ⊢;split at h
       · rename_i hcond
         rw[if_pos hcond];obtain⟨entries,h1,h2⟩:=Option.bind_eq_some_iff.1 h;refine Option.bind_eq_some_iff.2 ⟨entries,mapM_keep (fun y _ z hz=> ?_) h1,h2⟩;obtain⟨key,h3,h4⟩:=Option.bind_eq_some_iff.1 hz;refine Option.bind_eq_some_iff.2 ⟨key,h3,?_⟩;split at h4
         · rename_i hf
           rw[if_pos hf];obtain⟨q,h5,h6⟩:=Option.map_eq_some_iff.1 h4;exact Option.map_eq_some_iff.2 ⟨q,ih e (by simpa using hc) _ _ h5,h6⟩
         · cases h4
       · cases h
     · cases h
    all_goals exact h
theorem trodAll_keep {W W':World}(hb:Below W.heap.size W W')(L:List TypeId)(hL:closedTypes P L=true) :
 ∀ {ts:List TypeId} {vs:List Value} {ds:List (DataW H)} {ps:List MemPlace},(∀t∈ts,t∈L)→DataW.TrodAll enc P W 0 (fun _=>true) true ts vs ds ps →
  DataW.TrodAll enc P W' 0 (fun b=>decide (b<W.heap.size)) true ts vs ds ps:=by
 intro ts
 induction ts with
 | nil =>
    intro vs ds ps _ h;obtain⟨rfl,rfl,rfl⟩:=trodAll_nil h;exact trodAll_mk0
 | cons t ts ih =>
    intro vs ds ps hts h;obtain⟨v,vs',d,ds',p,q,rfl,rfl,rfl,⟨fuel,h1⟩,h2⟩:=trodAll_cons h;exact trodAll_cons_mk ⟨fuel,trod_keep hb L hL fuel t (hts t (by simp)) _ _ h1⟩ (ih (fun s hs=>hts s (by simp[hs])) h2)
end
end Go.Proofs.YtbjkkijickbppaaGreatDoor
namespace Go.Proofs.YtbjkkijickbppaaGreatDoor
open Go.ChangeShapes Go.WideShapes Go.RowKit
open Go.Deep (open_slice choose_lt oneCellFields hone_of)
theorem flatten_at {size:Nat} : ∀ {L:List (List Value)} {j:Nat} {u:Value},(∀cs∈L,cs.length=size)→L.flatten[j]? = some u→∃i r cs,j=i*size+r∧L[i]? = some cs∧cs[r]? = some u:=by
 intro L
 induction L with
 | nil=>intro j u _ h;simp at h
 | cons a L ih =>
    intro j u hl h;rw[List.flatten_cons]at h;have ha:=hl a (by simp);rcases Nat.lt_or_ge j a.length with h1 | h1
    · rw[List.getElem?_append_left h1]at h
      exact⟨0,j,a,by omega,rfl,h⟩
    · rw[List.getElem?_append_right h1]at h
      obtain⟨i,r,cs,e,h2,h3⟩:=ih (fun cs hc=>hl cs (by simp[hc])) h;exact⟨i+1,r,cs,by rw[Nat.add_mul];omega,by simpa using h2,h3⟩
theorem flatten_len {size:Nat} : ∀ {L:List (List Value)},(∀cs∈L,cs.length=size)→L.flatten.length=L.length*size:=by
 intro L
 induction L with
 | nil=>intro _;simp
 | cons a L ih =>
    intro h;rw[List.flatten_cons,List.length_append,ih (fun cs hc=>h cs (by simp[hc])),h a (by simp),List.length_cons,Nat.add_mul];omega
theorem of_map {α β:Type}{g:β→α} : ∀ {L:List α},(∀x∈L,∃y,x=g y)→∃l:List β,L=l.map g:=by
 intro L
 induction L with
 | nil=>intro _;exact⟨[],rfl⟩
 | cons a L ih =>
    intro h;obtain⟨y,rfl⟩:=h a (by simp);(obtain⟨l,rfl⟩:=ih fun x hx=>h x (by simp[hx]));exact⟨y::l,rfl⟩
theorem single_flat {α:Type}(g:α→Value)(l:List α):(l.map fun x=> [g x]).flatten=l.map g:=by
 induction l with
 | nil=>rfl
 | cons a l ih=>rw[List.map_cons,List.flatten_cons,ih];rfl
section
variable {H:Type} {enc:TypeId × Value→H} {P:Program} {W:World}
theorem u8_of {z:Int}(h:(Lit.int .u8 z).wf=true) : ∃c:UInt8,z=(c.toNat:Int):=by
 (have hb:0≤z∧z≤255:=by simpa[Lit.wf,IntKind.min,IntKind.max,IntKind.signed,IntKind.bits]using h);refine⟨UInt8.ofNat z.toNat,?_⟩;(have:(UInt8.ofNat z.toNat).toNat=z.toNat:=by simp;omega);rw[this];omega
def bytes (l:List UInt8):List Value:=l.map fun c=> .int .u8 c.toNat
end
end Go.Proofs.YtbjkkijickbppaaGreatDoor
namespace Go.Proofs.YtbjkkijickbppaaGreatDoor
open Go.ChangeShapes Go.WideShapes Go.RowKit
open Go.Deep (open_slice choose_lt oneCellFields hone_of)
section
variable {H:Type} {enc:TypeId × Value→H} {P:Program} {W:World}
theorem open_rdc {size fuel:Nat}{t e:TypeId}{v:Value}{x:DataW H × List MemPlace}(ht:P.underlying t=some (.slice e))(hz:P.cellsOf e=size)(hpos:0<size)
 (hf:DataW.trod enc P W 0 (fun _=>true) true fuel t [v]=some x) :
 ∃L:List (List Value),Rd W.heap.size size v L.length L.flatten W∧∀cs∈L,cs.length=size∧∃n x,DataW.trod enc P W 0 (fun _=>true) true n e cs=some x:=by
 rcases open_slice ht hf with⟨hcs,_⟩ | ⟨a,len,cap,m,n,D,Pl,hcs,_,hl,hm,hmm,_,hi⟩
 · simp at hcs
   subst hcs;exact⟨[],Rd.none0 _ _ _,by simp⟩
 · simp at hcs
   subst hcs;simp only[if_true]at hmm;rw[hz]at hi;obtain⟨f,hfi⟩:=choose_lt hi
   have hcell : ∀i,i<len→(f i).length=size∧∀j u,(f i)[j]? = some u→W.cell? ((a.add (i*size)).add j)=some u:=by
    intro i hil;obtain⟨hc,_⟩:=hfi i (by omega);obtain⟨_,hcl,hat⟩:=World.cells?_some hc;refine⟨hcl,fun j u hu=> ?_⟩;(have hj:j<size:=by have:=(List.getElem?_eq_some_iff.1 hu).1;omega);rw[hat j hj,hu]
   have hall : ∀cs∈(List.range len).map f,cs.length=size:=by
    intro cs hc;obtain⟨i,hi,rfl⟩:=List.mem_map.1 hc;exact(hcell i (List.mem_range.1 hi)).1
   refine⟨(List.range len).map f,?_,fun cs hc=> ?_⟩
   · rw[List.length_map,List.length_range]
     refine⟨some a,cap,rfl,hl,hm,fun e=>(by cases e),by rw[flatten_len hall];simp,fun hn=> ?_⟩;have h0:=hcell 0 hn;have h00:=h0.2 0 _ (List.getElem?_eq_getElem (by omega));obtain⟨b,off,spot⟩:=a;(have hspot:spot=none:=by simpa[Addr.add]using World.cell?_spot h00);subst hspot;refine⟨b,off,rfl,?_,fun j u hu=> ?_⟩
     · have:=cell_lt h00
       rwa [block_add,block_add]at this
     · obtain⟨i,r,cs,e,h2,h3⟩:=flatten_at hall hu
       have hil:i<len:=by
        have:=(List.getElem?_eq_some_iff.1 h2).1;simpa using this
       have:cs=f i:=by
        rw[List.getElem?_map,List.getElem?_range hil]at h2;exact(Option.some.inj h2).symm
       subst this;have:=(hcell i hil).2 r u h3;rw[add_plain,add_plain,Nat.add_assoc,←e]at this;exact this
   · obtain⟨i,hi,rfl⟩:=List.mem_map.1 hc
     exact⟨hall _ hc,n,_,(hfi i (by have:=List.mem_range.1 hi;omega)).2⟩
end
section
variable {H:Type} {enc:TypeId × Value→H} {W:World}
theorem czInt:Tryz.prog.cellsOf 3=1:=by kernel_rfl
theorem czStr:Tryz.prog.cellsOf 9=1:=by kernel_rfl
theorem czEnts:Tryz.prog.cellsOf 65=1:=by kernel_rfl
theorem czEnt:Tryz.prog.cellsOf 136=2:=by kernel_rfl
theorem czNode:Tryz.prog.cellsOf 67=8:=by kernel_rfl
set_option maxRecDepth 100000 in
theorem open_entc {fuel:Nat}{v:Value}{x:DataW H × List MemPlace}(hf:DataW.trod enc Tryz.prog W 0 (fun _=>true) true fuel 65 [v]=some x) : ∃l:List EntL,Rd W.heap.size 2 v l.length (ents l) W∧Fit l:=by
 obtain⟨L,g1,g2⟩:=open_rdc Tryz.underlying65 czEnt (by decide) hf
 have main : ∀cs∈L,∃e : {e:EntL // e.1.length≤maxLen},cs = [Value.string (bs e.1.1),Value.int .i64 e.1.2]:=by
  intro cs hc;obtain⟨hl,n,x,hx⟩:=g2 cs hc;obtain⟨xs,n',_,_,_,hxl,hg⟩:=DataW.trod_struct Tryz.underlying136 hx
  match cs,hl with
  | [c0,c1],_ =>
     (have k0:DataW.trod enc Tryz.prog W 0 (fun _=>true) true n' 9 (([c0,c1].drop 0).take (Tryz.prog.cellsOf 9))=xs[0]?:= by have:=hg 0 _ rfl;exact this);(have k1:DataW.trod enc Tryz.prog W 0 (fun _=>true) true n' 3 (([c0,c1].drop 1).take (Tryz.prog.cellsOf 3))=xs[1]?:= by have:=hg 1 _ rfl;exact this);rw[czStr]at k0;rw[czInt]at k1
     match xs,hxl with
     | [y0,y1],_ =>
        obtain⟨s,e0,_,hm⟩:=DataW.trod_string Tryz.underlying9 (show DataW.trod enc Tryz.prog W 0 (fun _=>true) true n' 9 [c0]=some y0 by simpa using k0);obtain⟨z,e1,_,_⟩:=DataW.trod_int Tryz.underlying3 (show DataW.trod enc Tryz.prog W 0 (fun _=>true) true n' 3 [c1]=some y1 by simpa using k1);simp at e0 e1;subst e0 e1;exact⟨⟨(s.data.toList,z),by show s.data.toList.length≤maxLen;rw[data_len];exact hm⟩,by rw[←bs_of]⟩
 obtain⟨l,rfl⟩:=of_map (g:=fun e : {e:EntL // e.1.length≤maxLen}=> [Value.string (bs e.1.1),Value.int .i64 e.1.2]) (L:=L) main;refine⟨l.map (·.1),?_,fun e he=> ?_⟩
 · rw[List.length_map]at g1
   rw[List.length_map]
   have e:(l.map fun e : {e:EntL // e.1.length≤maxLen}=> [Value.string (bs e.1.1),Value.int .i64 e.1.2]).flatten=ents (l.map (·.1)):=by
    unfold ents;rw[List.flatMap_def,List.map_map];rfl
   rwa [e]at g1
 · obtain⟨x,_,rfl⟩:=List.mem_map.1 he
   exact x.2
set_option maxRecDepth 100000 in
theorem open_node8 {fuel:Nat}{cs:List Value}{x:DataW H × List MemPlace}(hl:cs.length=8)(hx:DataW.trod enc Tryz.prog W 0 (fun _=>true) true fuel 67 cs=some x) :
 ∃m:NodeM,cs=ncells m∧RdNm W.heap.size m W∧Fit m.1.names:=by
 obtain⟨xs,n',_,_,_,hxl,hg⟩:=DataW.trod_struct Tryz.underlying67 hx
 match cs,hl with
 | [c0,c1,c2,c3,c4,c5,c6,c7],_ =>
    (have k0:DataW.trod enc Tryz.prog W 0 (fun _=>true) true n' 3 (([c0,c1,c2,c3,c4,c5,c6,c7].drop 0).take (Tryz.prog.cellsOf 3))=xs[0]?:= by have:=hg 0 _ rfl;exact this);(have k1:DataW.trod enc Tryz.prog W 0 (fun _=>true) true n' 3 (([c0,c1,c2,c3,c4,c5,c6,c7].drop 1).take (Tryz.prog.cellsOf 3))=xs[1]?:= by have:=hg 1 _ rfl;exact this);(have k2:DataW.trod enc Tryz.prog W 0 (fun _=>true) true n' 3 (([c0,c1,c2,c3,c4,c5,c6,c7].drop 2).take (Tryz.prog.cellsOf 3))=xs[2]?:= by have:=hg 2 _ rfl;exact this);(have k3:DataW.trod enc Tryz.prog W 0 (fun _=>true) true n' 3 (([c0,c1,c2,c3,c4,c5,c6,c7].drop 3).take (Tryz.prog.cellsOf 3))=xs[3]?:= by have:=hg 3 _ rfl;exact this);(have k4:DataW.trod enc Tryz.prog W 0 (fun _=>true) true n' 3 (([c0,c1,c2,c3,c4,c5,c6,c7].drop 4).take (Tryz.prog.cellsOf 3))=xs[4]?:= by have:=hg 4 _ rfl;exact this);(have k5:DataW.trod enc Tryz.prog W 0 (fun _=>true) true n' 3 (([c0,c1,c2,c3,c4,c5,c6,c7].drop 5).take (Tryz.prog.cellsOf 3))=xs[5]?:= by have:=hg 5 _ rfl;exact this);(have k6:DataW.trod enc Tryz.prog W 0 (fun _=>true) true n' 9 (([c0,c1,c2,c3,c4,c5,c6,c7].drop 6).take (Tryz.prog.cellsOf 9))=xs[6]?:= by have:=hg 6 _ rfl;exact this);have k7:DataW.trod enc Tryz.prog W 0 (fun _=>true) true n' 65 (([c0,c1,c2,c3,c4,c5,c6,c7].drop 7).take (Tryz.prog.cellsOf 65))=xs[7]?:= by have:=hg 7 _ rfl;exact this
    rw[czInt]at k0 k1 k2 k3 k4 k5;rw[czStr]at k6;rw[czEnts]at k7
    match xs,hxl with
    | [y0,y1,y2,y3,y4,y5,y6,y7],_ =>
       obtain⟨z0,e0,_,_⟩:=DataW.trod_int Tryz.underlying3 (show DataW.trod enc Tryz.prog W 0 (fun _=>true) true n' 3 [c0]=some y0 by simpa using k0);obtain⟨z1,e1,_,_⟩:=DataW.trod_int Tryz.underlying3 (show DataW.trod enc Tryz.prog W 0 (fun _=>true) true n' 3 [c1]=some y1 by simpa using k1);obtain⟨z2,e2,_,_⟩:=DataW.trod_int Tryz.underlying3 (show DataW.trod enc Tryz.prog W 0 (fun _=>true) true n' 3 [c2]=some y2 by simpa using k2);obtain⟨z3,e3,_,_⟩:=DataW.trod_int Tryz.underlying3 (show DataW.trod enc Tryz.prog W 0 (fun _=>true) true n' 3 [c3]=some y3 by simpa using k3);obtain⟨z4,e4,_,_⟩:=DataW.trod_int Tryz.underlying3 (show DataW.trod enc Tryz.prog W 0 (fun _=>true) true n' 3 [c4]=some y4 by simpa using k4);obtain⟨z5,e5,_,_⟩:=DataW.trod_int Tryz.underlying3 (show DataW.trod enc Tryz.prog W 0 (fun _=>true) true n' 3 [c5]=some y5 by simpa using k5);obtain⟨s,e6,_,hm⟩:=DataW.trod_string Tryz.underlying9 (show DataW.trod enc Tryz.prog W 0 (fun _=>true) true n' 9 [c6]=some y6 by simpa using k6);obtain⟨l,h7,hf7⟩:=open_entc (show DataW.trod enc Tryz.prog W 0 (fun _=>true) true n' 65 [c7]=some y7 by simpa using k7);simp at e0 e1 e2 e3 e4 e5 e6;subst e0 e1 e2 e3 e4 e5 e6;refine⟨(⟨z0,z1,z2,z3,z4,z5,s.data.toList,l⟩,c7),?_,h7,hf7⟩;unfold ncells;simp only
theorem open_nodes {fuel:Nat}{v:Value}{x:DataW H × List MemPlace}(hf:DataW.trod enc Tryz.prog W 0 (fun _=>true) true fuel 22 [v]=some x) : ∃ms:List NodeM,RdM W.heap.size v ms W∧FitD (pl ms):=by
 obtain⟨L,g1,g2⟩:=open_rdc Tryz.underlying22 czNode (by decide) hf
 have main : ∀cs∈L,∃m : {m:NodeM // RdNm W.heap.size m W∧Fit m.1.names},cs=ncells m.1:=by
  intro cs hc;obtain⟨hl,n,x,hx⟩:=g2 cs hc;obtain⟨m,h1,h2,h3⟩:=open_node8 hl hx;exact⟨⟨m,h2,h3⟩,h1⟩
 obtain⟨l,rfl⟩:=of_map (g:=fun m : {m:NodeM // RdNm W.heap.size m W∧Fit m.1.names}=>ncells m.1) (L:=L) main;refine⟨l.map (·.1),⟨?_,fun m hm=> ?_⟩,fun n hn=> ?_⟩
 · rw[List.length_map]at g1
   rw[List.length_map]
   have e:(l.map fun m : {m:NodeM // RdNm W.heap.size m W∧Fit m.1.names}=>ncells m.1).flatten=cellsN (l.map (·.1)):=by
    unfold cellsN;rw[List.flatMap_def,List.map_map];rfl
   rwa [e]at g1
 · obtain⟨x,_,rfl⟩:=List.mem_map.1 hm
   exact x.2.1
 · unfold pl at hn
   rw[List.map_map]at hn;obtain⟨x,_,rfl⟩:=List.mem_map.1 hn;exact x.2.2
end
end Go.Proofs.YtbjkkijickbppaaGreatDoor
