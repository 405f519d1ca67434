import Derived.Test.YtinoogmaikhpjaaGreatDoorR31
import Derived.ChangeKeysEq
namespace Go.Proofs.YtinoogmaikhpjaaGreatDoor
open Go.RowKit Go.Shelf
attribute [local go_sem ↓] Go.wp_at_zero Go.wp_at_succ
def sixB (n:NodeL):Bool:=decide (n.kind=0∧n.mode=0∧n.owner=0∧n.links=0∧n.opn=0∧n.up=0)
set_option maxRecDepth 100000 in
theorem eqSix (n:NodeL)(w:World):(Op.equalIn 10000 121 (.agg #[.int .i64 n.kind, .int .i64 n.mode, .int .i64 n.owner, .int .i64 n.links, .int .i64 n.opn, .int .i64 n.up]) (.agg #[.int .i64 0, .int .i64 0, .int .i64 0, .int .i64 0, .int .i64 0, .int .i64 0])).run Tryz.prog w = .ok (sixB n) w:=by
 have u3:=Tryz.underlying3;have a3:=Tryz.isAgg3;obtain⟨i,hi⟩ : ∃i,Tryz.prog.info? 3=some i:=⟨_,rfl⟩;(have hc:Tryz.prog.cellsOf 3=1:=by kernel_rfl);rw[show(10000:Nat)=9998+1+1 from rfl,run_equalIn_array w (9998+1) _ _ Tryz.underlying121 hi,hc,show List.range 6 = [0,1,2,3,4,5]from rfl];simp only[Op.eqItems];go_simp;unfold sixB;by_cases h0:n.kind=0<;>by_cases h1:n.mode=0<;>by_cases h2:n.owner=0<;>by_cases h3:n.links=0<;>by_cases h4:n.opn=0<;>by_cases h5:n.up=0<;>simp[h0,h1,h2,h3,h4,h5]
theorem zero_split (n:NodeL):decide (n=zeroN)=(sixB n && (List.isEmpty n.data && (n.names.length:Int) == 0)):=by
 rw[Bool.eq_iff_iff,decide_eq_true_iff];unfold sixB;simp only[Bool.and_eq_true,decide_eq_true_iff,List.isEmpty_iff,beq_iff_eq];constructor
 · intro h
   subst h;simp[zeroN]
 · rintro⟨⟨h0,h1,h2,h3,h4,h5⟩,h6,h7⟩
   exact node_ext h0 h1 h2 h3 h4 h5 h6 (List.eq_nil_of_length_eq_zero (by omega))
set_option maxRecDepth 100000 in
set_option maxHeartbeats 1000000 in
theorem zero_any (n:NodeL)(ao:Option Addr)(cap:Nat)(w:World):Calls Tryz.prog 41 #[nval n (.slice ao n.names.length cap)] w fun e w'=>e = .returned (.bool (decide (n=zeroN)))∧Below w.heap.size w w':=by
 have hE:=eqSix n;rw[zero_split]
 cases h1:sixB n with
 | false =>
    rw[h1]at hE;go_enter Tryz.func41,Tryz.ntmps41;go_wp2_with fail;go_ret;exact⟨rfl,((Below.refl _ w).alloc (Nat.le_refl _) _).alloc (by simp) _⟩
 | true =>
    rw[h1]at hE
    cases h2:List.isEmpty n.data with
    | false =>
       go_enter Tryz.func41,Tryz.ntmps41;go_wp2_with fail;go_ret;exact⟨rfl,((Below.refl _ w).alloc (Nat.le_refl _) _).alloc (by simp) _⟩
    | true =>
       go_enter Tryz.func41,Tryz.ntmps41;go_wp2_with fail;go_ret;exact⟨rfl,((Below.refl _ w).alloc (Nat.le_refl _) _).alloc (by simp) _⟩
set_option maxRecDepth 100000 in
set_option maxHeartbeats 1000000 in
theorem plain_any (n:NodeL)(v:Value)(w:World):Calls Tryz.prog 29 #[nval n v] w fun e w'=>e = .returned (.bool (plainB n))∧Below w.heap.size w w':=by
 (have hs:plainB n=(withinB n.kind 1 3 && (withinB n.mode 0 63 && decide (0≤n.opn))):=by unfold plainB withinB;simp only[Bool.and_assoc]);rw[hs];clear hs
 cases h1:withinB n.kind 1 3 with
 | false =>
    have H1:=Lib.hid h1;clear h1;go_enter Tryz.func29,Tryz.ntmps29;go_wp2_with fail;refine(within_any _ _ _ _).mono ?_;rintro e w1 ⟨rfl,rfl⟩;rw[H1.out];go_wp2_with fail;go_ret;exact⟨rfl,(Below.refl _ w).alloc (Nat.le_refl _) _⟩
 | true =>
    cases h2:withinB n.mode 0 63 with
    | false =>
       have H1:=Lib.hid h1;have H2:=Lib.hid h2;clear h1 h2;go_enter Tryz.func29,Tryz.ntmps29;go_wp2_with fail;refine(within_any _ _ _ _).mono ?_;rintro e w1 ⟨rfl,rfl⟩;rw[H1.out];go_wp2_with fail;refine(within_any _ _ _ _).mono ?_;rintro e w1 ⟨rfl,rfl⟩;rw[H2.out];go_wp2_with fail;go_ret;exact⟨rfl,(Below.refl _ w).alloc (Nat.le_refl _) _⟩
    | true =>
       have H1:=Lib.hid h1;have H2:=Lib.hid h2;clear h1 h2;go_enter Tryz.func29,Tryz.ntmps29;go_wp2_with fail;refine(within_any _ _ _ _).mono ?_;rintro e w1 ⟨rfl,rfl⟩;rw[H1.out];go_wp2_with fail;refine(within_any _ _ _ _).mono ?_;rintro e w1 ⟨rfl,rfl⟩;rw[H2.out];go_wp2_with fail;go_ret;exact⟨rfl,(Below.refl _ w).alloc (Nat.le_refl _) _⟩
set_option maxRecDepth 100000 in
set_option maxHeartbeats 1000000 in
theorem links_any (s:Nat × Int)(i:Int)(w:World)(hs:s.1≤100000):Calls Tryz.prog 36 #[.agg #[.int .i64 s.1, .int .i64 s.2], .int .i64 i] w fun e w'=>e = .returned (.int .i64 (linksC i s))∧Below w.heap.size w w':=by
 unfold linksC;by_cases h:i=0
 · have hI:(i == 0)=true:=by simpa using h
   rw[if_pos h];clear h;go_enter Tryz.func36,Tryz.ntmps36;go_wp2_with fail;go_ret;exact⟨ret_int (by rfl),(Below.refl _ w).alloc (Nat.le_refl _) _⟩
 · have hI:(i == 0)=false:=by simpa using h
   rw[if_neg h];clear h;go_enter Tryz.func36,Tryz.ntmps36;go_wp2_with fail;go_ret;exact⟨ret_int (by rfl),(Below.refl _ w).alloc (Nat.le_refl _) _⟩
end Go.Proofs.YtinoogmaikhpjaaGreatDoor
namespace Go.Proofs.YtinoogmaikhpjaaGreatDoor
open Go.RowKit Go.Shelf
attribute [local go_sem ↓] Go.wp_at_zero Go.wp_at_succ
set_option maxRecDepth 100000 in
set_option maxHeartbeats 1000000 in
theorem crooted_any (v:Value)(ms:List NodeM)(most room:Int)(w:World)(hv:RdM w.heap.size v ms w)(hl:ms.length≤10000) :
 Calls Tryz.prog 25 #[.agg #[v, .int .i64 most, .int .i64 room]] w fun e w'=>e = .returned (.bool (rootedB (pl ms)))∧Below w.heap.size w w':=by
 (have hb0 : ∀o:Obj,Below w.heap.size w (w.alloc o):=fun o=>(Below.refl _ w).alloc (Nat.le_refl _) o);obtain⟨ao,cap,rfl,_,_⟩:=rdm_form hv;by_cases h0:ms.length=0
 · have hI:decide (0<ms.length)=false:=decide_eq_false (by omega)
   have HE:Hid (rootedB (pl ms)=false):=Lib.hid (by unfold rootedB;rw[pl_len,hI];rfl);clear h0 hv;go_enter Tryz.func25,Tryz.ntmps25;go_wp2_with fail;go_ret;exact⟨ret_bool HE.out.symm,hb0 _⟩
 · have hI:decide (0<ms.length)=true:=decide_eq_true (by omega)
   obtain⟨b,off,n,aon,capn,rfl,hb,hn, -, -,c0,c1,c2,c3,c4,c5, -⟩:=node_at hv 0 (by omega);rw[Nat.zero_mul,Nat.add_zero]at c0 c5
   have hat:atI (pl ms) 0=n:=by
    rw[←hn];exact at_nat (pl ms) 0 (by rw[pl_len];omega)
   (have h00:(0:Int)<(ms.length:Int):=by omega);have HE:Hid (rootedB (pl ms)=(n.kind == 2 && n.up == 0)):=Lib.hid (by unfold rootedB;rw[pl_len,hI,hat];rfl);clear h0 hv hn hat
   cases hk:n.kind == 2 with
   | false =>
      rw[hk]at HE;go_enter Tryz.func25,Tryz.ntmps25;go_wp2_with fail;go_ret;exact⟨ret_bool (by rw[HE.out];rfl),hb0 _⟩
   | true =>
      rw[hk]at HE;go_enter Tryz.func25,Tryz.ntmps25;go_wp2_with fail;go_ret;exact⟨ret_bool (by rw[HE.out];rfl),hb0 _⟩
theorem namB_no {l:List NodeL}{e:EntL}(h:inL l e.2=false):namB l e=false:=by unfold namB gotB;rw[h];rfl
theorem namB_in {l:List NodeL}{e:EntL}{n:NodeL}(h:inL l e.2=true)(hn:atI l e.2=n):namB l e=(!decide (n.kind=0) && !(e.2 == 0)):=by unfold namB gotB;rw[h,hn];rfl
set_option maxRecDepth 100000 in
set_option maxHeartbeats 2000000 in
theorem namable_any (v ve:Value)(ms:List NodeM)(es:List EntL)(most room:Int)(w:World)(hv:RdM w.heap.size v ms w)(hl:ms.length≤10000)(he:Rd w.heap.size 2 ve es.length (ents es) w)(hel:es.length≤10000) :
 Calls Tryz.prog 34 #[.agg #[v, .int .i64 most, .int .i64 room],ve] w fun e w'=>e = .returned (.bool (namableB (pl ms) es))∧Below w.heap.size w w':=by
 obtain⟨ao,cap,rfl,_,_⟩:=rdm_form hv;obtain⟨aoe,cape,rfl,_,_⟩:=he.form;have HV:=Lib.hid hv;have HE:=Lib.hid he;clear hv he;go_enter Tryz.func34,Tryz.ntmps34;go_wp2_with fail;refine fresh1 (P:=fun W=>Code.wp _ _ _ _ W) ?_;intro W0 hb0 hP hs0;go_loopw [9] (fun i' wr=>∃j:Nat,i' = .int .i64 j∧j≤es.length∧Hid (NamTo (pl ms) es j)∧Below W0.heap.size W0 wr) (fun i' _=>es.length-(intOf i').toNat)
 case atStart=>exact⟨0,rfl,Nat.zero_le _,Lib.hid rfl,Below.refl _ _⟩
 case round =>
  obtain⟨j,rfl,hj,hN,hBr⟩:=hrel;have hPr:=(hBr.block _ (by omega)).trans hP;obtain⟨p0,p1,p2⟩:=cells3 hPr;have hBw:Below w.heap.size w wr:=hb0.trans (hBr.mono (by omega));have sB:=hBr.size;(have sW:w.heap.size<wr.heap.size:=by omega);by_cases hlt:j<es.length
  · obtain⟨b2,off2,cap2,e,_,_,hb2,_,hc⟩:=(HE.out.below hBw).at (by omega)
    injection e with e1 _ e2;subst e1;subst e2;have d0:=hc _ _ (ents_at0 es j hlt);have d1:wr.cell? ⟨b2,off2+j*2+1,none⟩=_:=hc (j*2+1) _ (ents_at1 es j hlt);obtain⟨f,hf⟩ : ∃f,f=es[j]:=⟨_,rfl⟩;rw[←hf]at d0 d1;obtain⟨fx,fz⟩:=f;have HFe:=Lib.hid hf;clear hc hf;go_wp2_with fail;refine fresh1 (P:=fun W=>Calls _ _ _ W _) ?_;intro W2 hb2' hQ2 hs2;have hP2:=(hb2'.block _ (by omega)).trans hPr;have hB2:=ret_tr hBr hb2';refine(has_any (pl ms) ao ms.length cap most room fz W2 (pl_len ms).symm (by omega)).mono ?_;rintro e W3 ⟨rfl,hb3⟩;have hP3:=(hb3.block _ (by omega)).trans hP2;have hQ3:=(hb3.block _ (by omega)).trans hQ2;have hB3:=ret_tr hB2 hb3;have hs3:=hb3.size;have hBw3:Below w.heap.size w W3:=hb0.trans (hB3.mono (by omega));clear p0 p1 p2 d0 d1 hQ2 hP2 hPr;obtain⟨p0,p1,p2⟩:=cells3 hP3;have q1:W3.cell? ⟨wr.heap.size,1,none⟩=some (.int .i64 fz):=by rw[Lib.cell_of_heap hQ3];rfl
    cases hi:inL (pl ms) fz with
    | false =>
       have HX:=Lib.hid (nam_bad hlt (by rw[←HFe.out];exact namB_no hi));clear hi;go_wp2_with fail;go_ret;exact⟨ret_bool HX.out.symm,hBw3⟩
    | true =>
       obtain⟨k,rfl,hk⟩:=in_nat hi;have hat:=at_nat (pl ms) k hk;rw[pl_len]at hk;obtain⟨b,off,n,aon,capn,rfl,hb,hn, -,hrn,c0,c1,c2,c3,c4,c5,c6,c7⟩:=node_at (HV.out.below hBw3) k hk;rw[hn]at hat;(have k0:(0:Int)≤(k:Int):=by omega);(have k1:(k:Int)<(ms.length:Int):=by omega);have HNB:=Lib.hid (namB_in (e:=(fx,(k:Int))) hi hat);clear hat hn hi hrn;go_wp2_with fail;refine(free_any n _ _).mono ?_;rintro e W4 ⟨rfl,hb4⟩;have hP4:=(hb4.block _ (by omega)).trans hP3;have hQ4:=(hb4.block _ (by omega)).trans hQ3;have hB4:=ret_tr hB3 hb4;have hBw4:Below w.heap.size w W4:=hb0.trans (hB4.mono (by omega));clear p0 p1 p2 q1 c0 c1 c2 c3 c4 c5 c6 c7;have q1:W4.cell? ⟨wr.heap.size,1,none⟩=some (.int .i64 k):=by rw[Lib.cell_of_heap hQ4];rfl
       cases hfr:decide (n.kind=0)with
       | true =>
          have HX:=Lib.hid (nam_bad hlt (by rw[←HFe.out,HNB.out,hfr];rfl));clear hfr;go_wp2_with fail;go_ret;exact⟨ret_bool HX.out.symm,hBw4⟩
       | false =>
          by_cases kz:k=0
          · have kI:((k:Int) == 0)=true:=by rw[beq_iff_eq];omega
            have HX:=Lib.hid (nam_bad hlt (by rw[←HFe.out,HNB.out,hfr,kI];rfl));clear hfr;go_wp2_with fail;go_ret;exact⟨ret_bool HX.out.symm,hBw4⟩
          · have kI:((k:Int) == 0)=false:=by rw[beq_eq_false_iff_ne];omega
            have HX:=Lib.hid (nam_succ hN.out hlt (by rw[←HFe.out,HNB.out,hfr,kI];rfl));clear hfr;go_wp2_with fail;go_roundw
            case rel=>exact⟨j+1,by go_num,hlt,HX,hB4⟩
            case measure=>simp[intOf];omega
  · have hje:j=es.length:=by omega
    have HX:=Lib.hid (nam_end hN.out hje);(have hI2:decide (j<es.length)=false:=by simp;omega);clear hje hlt;go_wp2_with fail;go_ret;exact⟨ret_bool HX.out.symm,hBw⟩
theorem climbC_step (l:List NodeL)(f:Nat)(j:Int)(h:j≠0):climbC l (f+1) j=if inL l j then climbC l f (atI l j).up else false:=by
 conv=>lhs;unfold climbC
 rw[if_neg h]
set_option maxRecDepth 100000 in
set_option maxHeartbeats 2000000 in
theorem climbs_any (v:Value)(ms:List NodeM)(most room i:Int)(w:World)(hv:RdM w.heap.size v ms w)(hl:ms.length≤10000) :
 Calls Tryz.prog 56 #[.agg #[v, .int .i64 most, .int .i64 room], .int .i64 i] w fun e w'=>e = .returned (.bool (climbC (pl ms) ms.length i))∧Below w.heap.size w w':=by
 obtain⟨ao,cap,rfl,_,_⟩:=rdm_form hv;have HV:=Lib.hid hv;clear hv;go_enter Tryz.func56,Tryz.ntmps56;go_wp2_with fail;refine fresh1 (P:=fun W=>Code.wp _ _ _ _ W) ?_;intro W0 hb0 hP hs0;go_loopw [1,8] (fun j' k' wr=>∃(k:Nat) (j:Int),j' = .int .i64 j∧k' = .int .i64 k∧k≤ms.length∧Hid (climbC (pl ms) ms.length i=climbC (pl ms) (ms.length-k) j)∧Below W0.heap.size W0 wr) (fun _ k' _=>ms.length-(intOf k').toNat)
 case atStart=>exact⟨0,i,rfl,rfl,Nat.zero_le _,Lib.hid rfl,Below.refl _ _⟩
 case round =>
  obtain⟨k,j,rfl,rfl,hk,hR,hBr⟩:=hrel;have hPr:=(hBr.block _ (by omega)).trans hP;obtain⟨p0,p1,p2⟩:=cells3 hPr;have hBw:Below w.heap.size w wr:=hb0.trans (hBr.mono (by omega));have sB:=hBr.size;by_cases hlt:k<ms.length
  · obtain⟨f,hf,hf2⟩ : ∃f,ms.length-k=f+1∧f=ms.length-(k+1):=⟨ms.length-k-1,by omega,by omega⟩
    have hR':=hR.out;rw[hf]at hR';by_cases hj:j=0
    · have hJ:(j == 0)=true:=by simpa using hj
      have HF:Hid (climbC (pl ms) ms.length i=true):=Lib.hid (by rw[hR',hj];rfl);clear hR' hj hf hf2;go_wp2_with fail;go_ret;exact⟨ret_bool HF.out.symm,hBw⟩
    · have hJ:(j == 0)=false:=by simpa using hj
      rw[climbC_step _ _ _ hj]at hR';have HR':=Lib.hid hR';clear hR' hj hf;go_wp2_with fail;refine(has_any (pl ms) ao ms.length cap most room j wr (pl_len ms).symm (by omega)).mono ?_;rintro e W1 ⟨rfl,hb1⟩;have hP1:=(hb1.block _ (by omega)).trans hPr;have hB1:=ret_tr hBr hb1;have hBw1:Below w.heap.size w W1:=hb0.trans (hB1.mono (by omega));clear p0 p1 p2;obtain⟨p0,p1,p2⟩:=cells3 hP1
      cases hi:inL (pl ms) j with
      | false =>
         have HF:Hid (climbC (pl ms) ms.length i=false):=Lib.hid (by rw[HR'.out,hi];rfl);clear hi;go_wp2_with fail;go_ret;exact⟨ret_bool HF.out.symm,hBw1⟩
      | true =>
         obtain⟨q,rfl,hq⟩:=in_nat hi;have hat:=at_nat (pl ms) q hq;rw[pl_len]at hq;obtain⟨b,off,n,aon,capn,rfl,hb,hn, -, -,c0,c1,c2,c3,c4,c5,c6,c7⟩:=node_at (HV.out.below hBw1) q hq;rw[hn]at hat;(have q0:(0:Int)≤(q:Int):=by omega);(have q1:(q:Int)<(ms.length:Int):=by omega);have HX:Hid (climbC (pl ms) ms.length i=climbC (pl ms) (ms.length-(k+1)) n.up):=Lib.hid (by rw[HR'.out,hi,hat,←hf2];rfl);clear hi hat hn;go_wp2_with fail;go_roundw
         case rel=>exact⟨k+1,n.up,rfl,by go_num,hlt,HX,hB1⟩
         case measure=>simp[intOf];omega
  · have hke:k=ms.length:=by omega
    have HF:Hid (climbC (pl ms) ms.length i=false):=Lib.hid (by rw[hR.out,hke,Nat.sub_self];rfl);(have hI2:decide (k<ms.length)=false:=by simp;omega);clear hke hlt;go_wp2_with fail;go_ret;exact⟨ret_bool HF.out.symm,hBw⟩
end Go.Proofs.YtinoogmaikhpjaaGreatDoor
