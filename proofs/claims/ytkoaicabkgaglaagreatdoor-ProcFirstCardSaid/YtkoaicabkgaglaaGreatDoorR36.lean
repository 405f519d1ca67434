import Derived.Test.YtkoaicabkgaglaaGreatDoorR25
import Derived.ChangeKeysEq
import Derived.OwnWalk
import Derived.StillTailTactics
namespace Go.Proofs.YtkoaicabkgaglaaGreatDoor
open Go.RowKit Go.Shelf
attribute [local go_sem ↓] Go.wp_at_zero Go.wp_at_succ
def sixB (n:NodeL):Bool:=decide (n.kind=0∧n.mode=0∧n.owner=0∧n.links=0∧n.opn=0∧n.up=0)
set_option maxRecDepth 100000 in
theorem eqSix (n:NodeL)(w:World):(Op.equalIn 10000 125 (.agg #[.int .i64 n.kind, .int .i64 n.mode, .int .i64 n.owner, .int .i64 n.links, .int .i64 n.opn, .int .i64 n.up]) (.agg #[.int .i64 0, .int .i64 0, .int .i64 0, .int .i64 0, .int .i64 0, .int .i64 0])).run Tryz.prog w = .ok (sixB n) w:=by
 have u3:=Tryz.underlying3;have a3:=Tryz.isAgg3;obtain⟨i,hi⟩ : ∃i,Tryz.prog.info? 3=some i:=⟨_,rfl⟩;(have hc:Tryz.prog.cellsOf 3=1:=by kernel_rfl);rw[show(10000:Nat)=9998+1+1 from rfl,run_equalIn_array w (9998+1) _ _ Tryz.underlying125 hi,hc,show List.range 6 = [0,1,2,3,4,5]from rfl];simp only[Op.eqItems];go_simp;unfold sixB;by_cases h0:n.kind=0<;>by_cases h1:n.mode=0<;>by_cases h2:n.owner=0<;>by_cases h3:n.links=0<;>by_cases h4:n.opn=0<;>by_cases h5:n.up=0<;>simp[h0,h1,h2,h3,h4,h5]
theorem zero_split (n:NodeL):decide (n=zeroN)=(sixB n && (List.isEmpty n.data && (n.names.length:Int) == 0)):=by
 rw[Bool.eq_iff_iff,decide_eq_true_iff];unfold sixB;simp only[Bool.and_eq_true,decide_eq_true_iff,List.isEmpty_iff,beq_iff_eq];constructor
 · intro h
   subst h;simp[zeroN]
 · rintro⟨⟨h0,h1,h2,h3,h4,h5⟩,h6,h7⟩
   exact node_ext h0 h1 h2 h3 h4 h5 h6 (List.eq_nil_of_length_eq_zero (by omega))
set_option maxRecDepth 100000 in
set_option maxHeartbeats 1000000 in
theorem zero_any (n:NodeL)(ao:Option Addr)(cap:Nat)(w:World):Calls Tryz.prog 42 #[nval n (.slice ao n.names.length cap)] w fun e w'=>e = .returned (.bool (decide (n=zeroN)))∧Below w.heap.size w w':=by
 have hE:=eqSix n;rw[zero_split]
 cases h1:sixB n with
 | false =>
    rw[h1]at hE;go_enter Tryz.func42,Tryz.ntmps42;go_wp2_with fail;go_ret;exact⟨rfl,((Below.refl _ w).alloc (Nat.le_refl _) _).alloc (by simp) _⟩
 | true =>
    rw[h1]at hE
    cases h2:List.isEmpty n.data with
    | false =>
       go_enter Tryz.func42,Tryz.ntmps42;go_wp2_with fail;go_ret;exact⟨rfl,((Below.refl _ w).alloc (Nat.le_refl _) _).alloc (by simp) _⟩
    | true =>
       go_enter Tryz.func42,Tryz.ntmps42;go_wp2_with fail;go_ret;exact⟨rfl,((Below.refl _ w).alloc (Nat.le_refl _) _).alloc (by simp) _⟩
set_option maxRecDepth 100000 in
set_option maxHeartbeats 1000000 in
theorem plain_any (n:NodeL)(v:Value)(w:World):Calls Tryz.prog 30 #[nval n v] w fun e w'=>e = .returned (.bool (plainB n))∧Below w.heap.size w w':=by
 (have hs:plainB n=(withinB n.kind 1 3 && (withinB n.mode 0 63 && decide (0≤n.opn))):=by unfold plainB withinB;simp only[Bool.and_assoc]);rw[hs];clear hs
 cases h1:withinB n.kind 1 3 with
 | false =>
    have H1:=Lib.hid h1;clear h1;go_enter Tryz.func30,Tryz.ntmps30;go_wp2_with fail;refine(within_any _ _ _ _).mono ?_;rintro e w1 ⟨rfl,rfl⟩;rw[H1.out];go_wp2_with fail;go_ret;exact⟨rfl,(Below.refl _ w).alloc (Nat.le_refl _) _⟩
 | true =>
    cases h2:withinB n.mode 0 63 with
    | false =>
       have H1:=Lib.hid h1;have H2:=Lib.hid h2;clear h1 h2;go_enter Tryz.func30,Tryz.ntmps30;go_wp2_with fail;refine(within_any _ _ _ _).mono ?_;rintro e w1 ⟨rfl,rfl⟩;rw[H1.out];go_wp2_with fail;refine(within_any _ _ _ _).mono ?_;rintro e w1 ⟨rfl,rfl⟩;rw[H2.out];go_wp2_with fail;go_ret;exact⟨rfl,(Below.refl _ w).alloc (Nat.le_refl _) _⟩
    | true =>
       have H1:=Lib.hid h1;have H2:=Lib.hid h2;clear h1 h2;go_enter Tryz.func30,Tryz.ntmps30;go_wp2_with fail;refine(within_any _ _ _ _).mono ?_;rintro e w1 ⟨rfl,rfl⟩;rw[H1.out];go_wp2_with fail;refine(within_any _ _ _ _).mono ?_;rintro e w1 ⟨rfl,rfl⟩;rw[H2.out];go_wp2_with fail;go_ret;exact⟨rfl,(Below.refl _ w).alloc (Nat.le_refl _) _⟩
set_option maxRecDepth 100000 in
set_option maxHeartbeats 1000000 in
theorem links_any (s:Nat × Int)(i:Int)(w:World)(hs:s.1≤100000):Calls Tryz.prog 37 #[.agg #[.int .i64 s.1, .int .i64 s.2], .int .i64 i] w fun e w'=>e = .returned (.int .i64 (linksC i s))∧Below w.heap.size w w':=by
 unfold linksC;by_cases h:i=0
 · have hI:(i == 0)=true:=by simpa using h
   rw[if_pos h];clear h;go_enter Tryz.func37,Tryz.ntmps37;go_wp2_with fail;go_ret;exact⟨ret_int (by rfl),(Below.refl _ w).alloc (Nat.le_refl _) _⟩
 · have hI:(i == 0)=false:=by simpa using h
   rw[if_neg h];clear h;go_enter Tryz.func37,Tryz.ntmps37;go_wp2_with fail;go_ret;exact⟨ret_int (by rfl),(Below.refl _ w).alloc (Nat.le_refl _) _⟩
end Go.Proofs.YtkoaicabkgaglaaGreatDoor
namespace Go.Proofs.YtkoaicabkgaglaaGreatDoor
open Go.RowKit Go.Shelf
attribute [local go_sem ↓] Go.wp_at_zero Go.wp_at_succ
set_option maxRecDepth 100000 in
set_option maxHeartbeats 1000000 in
theorem crooted_any (v:Value)(ms:List NodeM)(most room:Int)(w:World)(hv:RdM w.heap.size v ms w)(hl:ms.length≤10000) :
 Calls Tryz.prog 26 #[.agg #[v, .int .i64 most, .int .i64 room]] w fun e w'=>e = .returned (.bool (rootedB (pl ms)))∧Below w.heap.size w w':=by
 (have hb0 : ∀o:Obj,Below w.heap.size w (w.alloc o):=fun o=>(Below.refl _ w).alloc (Nat.le_refl _) o);obtain⟨ao,cap,rfl,_,_⟩:=rdm_form hv;by_cases h0:ms.length=0
 · have hI:decide (0<ms.length)=false:=decide_eq_false (by omega)
   have HE:Hid (rootedB (pl ms)=false):=Lib.hid (by unfold rootedB;rw[pl_len,hI];rfl);clear h0 hv;go_enter Tryz.func26,Tryz.ntmps26;go_wp2_with fail;go_ret;exact⟨ret_bool HE.out.symm,hb0 _⟩
 · have hI:decide (0<ms.length)=true:=decide_eq_true (by omega)
   obtain⟨b,off,n,aon,capn,rfl,hb,hn, -, -,c0,c1,c2,c3,c4,c5, -⟩:=node_at hv 0 (by omega);rw[Nat.zero_mul,Nat.add_zero]at c0 c5
   have hat:atI (pl ms) 0=n:=by
    rw[←hn];exact at_nat (pl ms) 0 (by rw[pl_len];omega)
   (have h00:(0:Int)<(ms.length:Int):=by omega);have HE:Hid (rootedB (pl ms)=(n.kind == 2 && n.up == 0)):=Lib.hid (by unfold rootedB;rw[pl_len,hI,hat];rfl);clear h0 hv hn hat
   cases hk:n.kind == 2 with
   | false =>
      rw[hk]at HE;go_enter Tryz.func26,Tryz.ntmps26;go_wp2_with fail;go_ret;exact⟨ret_bool (by rw[HE.out];rfl),hb0 _⟩
   | true =>
      rw[hk]at HE;go_enter Tryz.func26,Tryz.ntmps26;go_wp2_with fail;go_ret;exact⟨ret_bool (by rw[HE.out];rfl),hb0 _⟩
theorem namB_no {l:List NodeL}{e:EntL}(h:inL l e.2=false):namB l e=false:=by unfold namB gotB;rw[h];rfl
theorem namB_in {l:List NodeL}{e:EntL}{n:NodeL}(h:inL l e.2=true)(hn:atI l e.2=n):namB l e=(!decide (n.kind=0) && !(e.2 == 0)):=by unfold namB gotB;rw[h,hn];rfl
set_option maxRecDepth 100000 in
set_option maxHeartbeats 2000000 in
theorem namable_any (v ve:Value)(ms:List NodeM)(es:List EntL)(most room:Int)(w:World)(hv:RdM w.heap.size v ms w)(hl:ms.length≤10000)(he:Rd w.heap.size 2 ve es.length (ents es) w)(hel:es.length≤10000) :
 Calls Tryz.prog 35 #[.agg #[v, .int .i64 most, .int .i64 room],ve] w fun e w'=>e = .returned (.bool (namableB (pl ms) es))∧Below w.heap.size w w':=by
 obtain⟨ao,cap,rfl,_,_⟩:=rdm_form hv;obtain⟨aoe,cape,rfl,_,_⟩:=he.form;have HV:=Lib.hid hv;have HE:=Lib.hid he;clear hv he;go_enter Tryz.func35,Tryz.ntmps35;go_wp2_with fail;refine fresh1 (P:=fun W=>Code.wp _ _ _ _ W) ?_;intro W0 hb0 hP hs0;go_loopw [9] (fun i' wr=>∃j:Nat,i' = .int .i64 j∧j≤es.length∧Hid (NamTo (pl ms) es j)∧Below W0.heap.size W0 wr) (fun i' _=>es.length-(intOf i').toNat)
 case atStart=>exact⟨0,rfl,Nat.zero_le _,Lib.hid rfl,Below.refl _ _⟩
 case round =>
  obtain⟨j,rfl,hj,hN,hBr⟩:=hrel;have hPr:=(hBr.block _ (by omega)).trans hP;obtain⟨p0,p1,p2⟩:=cells3 hPr;have hBw:Below w.heap.size w wr:=hb0.trans (hBr.mono (by omega));have sB:=hBr.size;(have sW:w.heap.size<wr.heap.size:=by omega);by_cases hlt:j<es.length
  · obtain⟨b2,off2,cap2,e,_,_,hb2,_,hc⟩:=(HE.out.below hBw).at (by omega)
    injection e with e1 _ e2;subst e1;subst e2;have d0:=hc _ _ (ents_at0 es j hlt);have d1:wr.cell? ⟨b2,off2+j*2+1,none⟩=_:=hc (j*2+1) _ (ents_at1 es j hlt);obtain⟨f,hf⟩ : ∃f,f=es[j]:=⟨_,rfl⟩;rw[←hf]at d0 d1;obtain⟨fx,fz⟩:=f;have HFe:=Lib.hid hf;clear hc hf;go_wp2_with fail;refine fresh1 (P:=fun W=>Calls _ _ _ W _) ?_;intro W2 hb2' hQ2 hs2;have hP2:=(hb2'.block _ (by omega)).trans hPr;have hB2:=ret_tr hBr hb2';refine(has_any (pl ms) ao ms.length cap most room fz W2 (pl_len ms).symm (by omega)).mono ?_;rintro e W3 ⟨rfl,hb3⟩;have hP3:=(hb3.block _ (by omega)).trans hP2;have hQ3:=(hb3.block _ (by omega)).trans hQ2;have hB3:=ret_tr hB2 hb3;have hs3:=hb3.size;have hBw3:Below w.heap.size w W3:=hb0.trans (hB3.mono (by omega));clear p0 p1 p2 d0 d1 hQ2 hP2 hPr;obtain⟨p0,p1,p2⟩:=cells3 hP3;have q1:W3.cell? ⟨wr.heap.size,1,none⟩=some (.int .i64 fz):=by rw[Lib.cell_of_heap hQ3];rfl
    cases hi:inL (pl ms) fz with
    | false =>
       have HX:=Lib.hid (nam_bad hlt (by rw[←HFe.out];exact namB_no hi));clear hi;go_wp2_with fail;go_ret;exact⟨ret_bool HX.out.symm,hBw3⟩
    | true =>
       obtain⟨k,rfl,hk⟩:=in_nat hi;have hat:=at_nat (pl ms) k hk;rw[pl_len]at hk;obtain⟨b,off,n,aon,capn,rfl,hb,hn, -,hrn,c0,c1,c2,c3,c4,c5,c6,c7⟩:=node_at (HV.out.below hBw3) k hk;rw[hn]at hat;(have k0:(0:Int)≤(k:Int):=by omega);(have k1:(k:Int)<(ms.length:Int):=by omega);have HNB:=Lib.hid (namB_in (e:=(fx,(k:Int))) hi hat);clear hat hn hi hrn;go_wp2_with fail;refine(free_any n _ _).mono ?_;rintro e W4 ⟨rfl,hb4⟩;have hP4:=(hb4.block _ (by omega)).trans hP3;have hQ4:=(hb4.block _ (by omega)).trans hQ3;have hB4:=ret_tr hB3 hb4;have hBw4:Below w.heap.size w W4:=hb0.trans (hB4.mono (by omega));clear p0 p1 p2 q1 c0 c1 c2 c3 c4 c5 c6 c7;have q1:W4.cell? ⟨wr.heap.size,1,none⟩=some (.int .i64 k):=by rw[Lib.cell_of_heap hQ4];rfl
       cases hfr:decide (n.kind=0)with
       | true =>
          have HX:=Lib.hid (nam_bad hlt (by rw[←HFe.out,HNB.out,hfr];rfl));clear hfr;go_wp2_with fail;go_ret;exact⟨ret_bool HX.out.symm,hBw4⟩
       | false =>
          by_cases kz:k=0
          · have kI:((k:Int) == 0)=true:=by rw[beq_iff_eq];omega
            have HX:=Lib.hid (nam_bad hlt (by rw[←HFe.out,HNB.out,hfr,kI];rfl));clear hfr;go_wp2_with fail;go_ret;exact⟨ret_bool HX.out.symm,hBw4⟩
          · have kI:((k:Int) == 0)=false:=by rw[beq_eq_false_iff_ne];omega
            have HX:=Lib.hid (nam_succ hN.out hlt (by rw[←HFe.out,HNB.out,hfr,kI];rfl));clear hfr;go_wp2_with fail;go_roundw
            case rel=>exact⟨j+1,by go_num,hlt,HX,hB4⟩
            case measure=>simp[intOf];omega
  · have hje:j=es.length:=by omega
    have HX:=Lib.hid (nam_end hN.out hje);(have hI2:decide (j<es.length)=false:=by simp;omega);clear hje hlt;go_wp2_with fail;go_ret;exact⟨ret_bool HX.out.symm,hBw⟩
theorem climbC_step (l:List NodeL)(f:Nat)(j:Int)(h:j≠0):climbC l (f+1) j=if inL l j then climbC l f (atI l j).up else false:=by
 conv=>lhs;unfold climbC
 rw[if_neg h]
set_option maxRecDepth 100000 in
set_option maxHeartbeats 2000000 in
theorem climbs_any (v:Value)(ms:List NodeM)(most room i:Int)(w:World)(hv:RdM w.heap.size v ms w)(hl:ms.length≤10000) :
 Calls Tryz.prog 62 #[.agg #[v, .int .i64 most, .int .i64 room], .int .i64 i] w fun e w'=>e = .returned (.bool (climbC (pl ms) ms.length i))∧Below w.heap.size w w':=by
 obtain⟨ao,cap,rfl,_,_⟩:=rdm_form hv;have HV:=Lib.hid hv;clear hv;go_enter Tryz.func62,Tryz.ntmps62;go_wp2_with fail;refine fresh1 (P:=fun W=>Code.wp _ _ _ _ W) ?_;intro W0 hb0 hP hs0;go_loopw [1,8] (fun j' k' wr=>∃(k:Nat) (j:Int),j' = .int .i64 j∧k' = .int .i64 k∧k≤ms.length∧Hid (climbC (pl ms) ms.length i=climbC (pl ms) (ms.length-k) j)∧Below W0.heap.size W0 wr) (fun _ k' _=>ms.length-(intOf k').toNat)
 case atStart=>exact⟨0,i,rfl,rfl,Nat.zero_le _,Lib.hid rfl,Below.refl _ _⟩
 case round =>
  obtain⟨k,j,rfl,rfl,hk,hR,hBr⟩:=hrel;have hPr:=(hBr.block _ (by omega)).trans hP;obtain⟨p0,p1,p2⟩:=cells3 hPr;have hBw:Below w.heap.size w wr:=hb0.trans (hBr.mono (by omega));have sB:=hBr.size;by_cases hlt:k<ms.length
  · obtain⟨f,hf,hf2⟩ : ∃f,ms.length-k=f+1∧f=ms.length-(k+1):=⟨ms.length-k-1,by omega,by omega⟩
    have hR':=hR.out;rw[hf]at hR';by_cases hj:j=0
    · have hJ:(j == 0)=true:=by simpa using hj
      have HF:Hid (climbC (pl ms) ms.length i=true):=Lib.hid (by rw[hR',hj];rfl);clear hR' hj hf hf2;go_wp2_with fail;go_ret;exact⟨ret_bool HF.out.symm,hBw⟩
    · have hJ:(j == 0)=false:=by simpa using hj
      rw[climbC_step _ _ _ hj]at hR';have HR':=Lib.hid hR';clear hR' hj hf;go_wp2_with fail;refine(has_any (pl ms) ao ms.length cap most room j wr (pl_len ms).symm (by omega)).mono ?_;rintro e W1 ⟨rfl,hb1⟩;have hP1:=(hb1.block _ (by omega)).trans hPr;have hB1:=ret_tr hBr hb1;have hBw1:Below w.heap.size w W1:=hb0.trans (hB1.mono (by omega));clear p0 p1 p2;obtain⟨p0,p1,p2⟩:=cells3 hP1
      cases hi:inL (pl ms) j with
      | false =>
         have HF:Hid (climbC (pl ms) ms.length i=false):=Lib.hid (by rw[HR'.out,hi];rfl);clear hi;go_wp2_with fail;go_ret;exact⟨ret_bool HF.out.symm,hBw1⟩
      | true =>
         obtain⟨q,rfl,hq⟩:=in_nat hi;have hat:=at_nat (pl ms) q hq;rw[pl_len]at hq;obtain⟨b,off,n,aon,capn,rfl,hb,hn, -, -,c0,c1,c2,c3,c4,c5,c6,c7⟩:=node_at (HV.out.below hBw1) q hq;rw[hn]at hat;(have q0:(0:Int)≤(q:Int):=by omega);(have q1:(q:Int)<(ms.length:Int):=by omega);have HX:Hid (climbC (pl ms) ms.length i=climbC (pl ms) (ms.length-(k+1)) n.up):=Lib.hid (by rw[HR'.out,hi,hat,←hf2];rfl);clear hi hat hn;go_wp2_with fail;go_roundw
         case rel=>exact⟨k+1,n.up,rfl,by go_num,hlt,HX,hB1⟩
         case measure=>simp[intOf];omega
  · have hke:k=ms.length:=by omega
    have HF:Hid (climbC (pl ms) ms.length i=false):=Lib.hid (by rw[hR.out,hke,Nat.sub_self];rfl);(have hI2:decide (k<ms.length)=false:=by simp;omega);clear hke hlt;go_wp2_with fail;go_ret;exact⟨ret_bool HF.out.symm,hBw⟩
end Go.Proofs.YtkoaicabkgaglaaGreatDoor
namespace Go.Proofs.YtkoaicabkgaglaaGreatDoor
open Go.RowKit Go.Shelf
attribute [local go_sem ↓] Go.wp_at_zero Go.wp_at_succ
theorem infoNaming:(Tryz.prog.info? 91).map (fun i=>(i.zero,i.size,i.bytes))=some (some (.agg #[.int .i64 0, .int .i64 0]),2,16):=by kernel_rfl
theorem placed_split (l:List NodeL)(k:Int)(n:NodeL)(x:Nat)(y:Int):placedC l k n (x,y)=if((x:Int) == 0)=true then((n.names.length:Int) == 0 && n.up == 0)else if((x:Int) == 1)=true then(n.up == y && climbC l l.length k)else false:=by
 unfold placedC
 have hlen:((n.names.length:Int) == 0)=decide (n.names.length=0):=by
  rw[Bool.eq_iff_iff,beq_iff_eq,decide_eq_true_iff];omega
 have hx0:((x:Int) == 0)=decide (x=0):=by
  rw[Bool.eq_iff_iff,beq_iff_eq,decide_eq_true_iff];omega
 have hx1:((x:Int) == 1)=decide (x=1):=by
  rw[Bool.eq_iff_iff,beq_iff_eq,decide_eq_true_iff];omega
 have hup0:(n.up == 0)=decide (n.up=0):=rfl;have hupy:(n.up == y)=decide (n.up=y):=rfl;rw[hlen,hx0,hx1,hup0,hupy];simp only[decide_eq_true_iff]
set_option maxRecDepth 100000 in
set_option maxHeartbeats 2000000 in
theorem placed_any (v:Value)(ms:List NodeM)(most room:Int)(k x:Nat)(y:Int)(w:World)(hk:k<ms.length)(hv:RdM w.heap.size v ms w)(hl:ms.length≤10000) :
 Calls Tryz.prog 40 #[.agg #[v, .int .i64 most, .int .i64 room], .agg #[.int .i64 x, .int .i64 y], .int .i64 k] w fun e w'=>e = .returned (.bool (placedC (pl ms) k (atI (pl ms) k) (x,y)))∧Below w.heap.size w w':=by
 obtain⟨ao,cap,rfl,_,_⟩:=rdm_form hv;obtain⟨b,off,n,aon,capn,rfl,hb,hn, -,hrn,c0,c1,c2,c3,c4,c5,c6,c7⟩:=node_at hv k hk;have hat:=at_nat (pl ms) k (by rw[pl_len];exact hk);rw[hn]at hat;rw[hat];have HL:Hid (placedC (pl ms) k n (x,y)=if((x:Int) == 0)=true then((n.names.length:Int) == 0 && n.up == 0)else if((x:Int) == 1)=true then(n.up == y && climbC (pl ms) ms.length k)else false):=Lib.hid (by rw[placed_split,pl_len]);have HV:=Lib.hid hv;(have k0:(0:Int)≤(k:Int):=by omega);(have k1:(k:Int)<(ms.length:Int):=by omega);(have hb3 : ∀A B C:Obj,Below w.heap.size w (((w.alloc A).alloc B).alloc C):=fun A B C=>(((Below.refl _ w).alloc (Nat.le_refl _) A).alloc (by simp) B).alloc (by simp;omega) C);clear hv hn hat hrn;go_enter Tryz.func40,Tryz.ntmps40
 cases hx0:(x:Int) == 0 with
 | true =>
    rw[hx0,if_pos rfl]at HL
    cases hn0:(n.names.length:Int) == 0 with
    | false =>
       rw[hn0]at HL;go_wp2_with fail;go_ret;exact⟨ret_bool (by rw[HL.out];rfl),hb3 _ _ _⟩
    | true =>
       rw[hn0]at HL;go_wp2_with fail;go_ret;exact⟨ret_bool (by rw[HL.out];rfl),hb3 _ _ _⟩
 | false =>
    rw[hx0,if_neg (by decide)]at HL
    cases hx1:(x:Int) == 1 with
    | false =>
       rw[hx1,if_neg (by decide)]at HL;go_wp2_with fail;go_ret;exact⟨ret_bool HL.out.symm,hb3 _ _ _⟩
    | true =>
       rw[hx1,if_pos rfl]at HL
       cases hy:n.up == y with
       | false =>
          rw[hy]at HL;go_wp2_with fail;go_ret;exact⟨ret_bool (by rw[HL.out];rfl),hb3 _ _ _⟩
       | true =>
          rw[hy]at HL;go_wp2_with fail;refine fresh3 (P:=fun W=>Calls _ _ _ W _) ?_;intro W0 hb0 hP hQ hR hs0;refine(climbs_any (.slice (some ⟨b,off,none⟩) ms.length cap) ms most room k W0 (rdm_keep HV.out hb0) hl).mono ?_;rintro e W1 ⟨rfl,hb1⟩;go_wp2_with fail;go_ret;exact⟨ret_bool (by rw[HL.out];rfl),ret_tr hb0 hb1⟩
def RowN (g n:Nat)(f:Nat→Nat × Int)(W:World):Prop:=∃cur t,W.heap[g]? = some (.cells cur t (0,0))∧∀i,i<n→cur[i*2]? = some (.int .i64 ((f i).1:Int))∧cur[i*2+1]? = some (.int .i64 (f i).2)
theorem RowN.lt {g n:Nat}{f:Nat→Nat × Int}{W:World}(h:RowN g n f W):g<W.heap.size:=by
 obtain⟨cur,t,h,_⟩:=h;exact(Array.getElem?_eq_some_iff.1 h).1
theorem RowN.keep {g n:Nat}{f:Nat→Nat × Int}{W W':World}(h:RowN g n f W)(hb:Below W.heap.size W W'):RowN g n f W':=by
 have hlt:=h.lt;obtain⟨cur,t,h,hc⟩:=h;exact⟨cur,t,(hb.block g hlt).trans h,hc⟩
theorem RowN.cells {g n:Nat}{f:Nat→Nat × Int}{W:World}(h:RowN g n f W)(i:Nat)(hi:i<n):W.cell? ⟨g,i*2,none⟩=some (.int .i64 ((f i).1:Int))∧W.cell? ⟨g,i*2+1,none⟩=some (.int .i64 (f i).2)∧∀j,W.frozen? ⟨g,j,none⟩=false:=by
 obtain⟨cur,t,h,hc⟩:=h;exact⟨by rw[Lib.cell_of_heap h];exact(hc i hi).1,by rw[Lib.cell_of_heap h];exact(hc i hi).2,fun j=>Lib.frozen_of_heap h j⟩
theorem RowN.set {g n:Nat}{f f':Nat→Nat × Int}{W:World}{u0 u1:Int}(h:RowN g n f W)(q:Nat)(hq:q<n)(hf : ∀i,i<n→i≠q→f' i=f i)(e0:u0=((f' q).1:Int))(e1:u1=(f' q).2):RowN g n f' ((W.setCell ⟨g,q*2,none⟩ (.int .i64 u0)).setCell ⟨g,q*2+1,none⟩ (.int .i64 u1)):=by
 subst e0 e1;obtain⟨cur,t,h,hc⟩:=h;have hs0:=(Array.getElem?_eq_some_iff.1 (hc q hq).1).1;have hs1:=(Array.getElem?_eq_some_iff.1 (hc q hq).2).1;refine⟨_,t,heap_set (heap_set h),fun i hi=> ?_⟩;by_cases e:i=q
 · subst e
   refine⟨?_,?_⟩
   · rw[Array.getElem?_setIfInBounds_ne (by omega),Array.getElem?_setIfInBounds_self_of_lt hs0]
   · rw[Array.getElem?_setIfInBounds_self_of_lt (by rw[Array.size_setIfInBounds];exact hs1)]
 · rw[hf i hi e]
   refine⟨?_,?_⟩
   · rw[Array.getElem?_setIfInBounds_ne (by omega),Array.getElem?_setIfInBounds_ne (by omega)]
     exact(hc i hi).1
   · rw[Array.getElem?_setIfInBounds_ne (by omega),Array.getElem?_setIfInBounds_ne (by omega)]
     exact(hc i hi).2
theorem RowN.same {g n:Nat}{f f':Nat→Nat × Int}{W:World}(h:RowN g n f W)(hf : ∀i,i<n→f' i=f i):RowN g n f' W:=by
 obtain⟨cur,t,h,hc⟩:=h;exact⟨cur,t,h,fun i hi=>by rw[hf i hi];exact hc i hi⟩
theorem row_made {g base n:Nat}{e:TypeId}{W:World}(h:W.ownsRow base e 2 (.slice (some ⟨g,0,none⟩) n n) n (madeCells (Value.agg #[.int .i64 0, .int .i64 0]).cells (n*2)).toList):RowN g n (fun _=>(0,0)) W:=by
 rcases h.2 with⟨e1,_⟩ | ⟨g',cap,cur,e1,_,hh,_,_,hs,ht⟩
 · cases e1
 · injection e1 with e1 _ e2
   injection e1 with e1;injection e1 with e1;subst e1 e2
   have hc : ∀j,j<n*2→cur[j]? = some (.int .i64 0):=fun j hj=>by
    have h1:cur.toList[j]? = (madeCells (Value.agg #[.int .i64 0, .int .i64 0]).cells (n*2)).toList[j]?:= by
     rw[←ht,List.getElem?_take_of_lt hj]
    rw[Array.getElem?_toList,Array.getElem?_toList]at h1;rw[h1];unfold madeCells;rw[Array.getElem?_map,Array.getElem?_range,if_pos hj];(have h2:j % 2=0∨j % 2=1:=by omega);show some _=_;congr 1;rcases h2 with h2 | h2
    · show(#[Value.int .i64 0,Value.int .i64 0]:Array Value)[j % 2]! = _
      rw[h2];rfl
    · show(#[Value.int .i64 0,Value.int .i64 0]:Array Value)[j % 2]! = _
      rw[h2];rfl
   exact⟨cur,_,hh,fun i hi=>⟨hc _ (by omega),hc _ (by omega)⟩⟩
def NamingsIs (l:List NodeL)(e:Ending)(W W':World):Prop:=∃g cap,e = .returned (.slice (some ⟨g,0,none⟩) l.length cap)∧RowN g l.length (fun i=>nmL l i (0,0)) W'∧Below W.heap.size W W'
set_option maxRecDepth 100000 in
set_option maxHeartbeats 4000000 in
theorem namings_any (v:Value)(ms:List NodeM)(most room:Int)(w:World)(hv:RdM w.heap.size v ms w)(hsm:Small (pl ms)) :
 Calls Tryz.prog 28 #[.agg #[v, .int .i64 most, .int .i64 room]] w fun e w'=>NamingsIs (pl ms) e w w':=by
 (have hl:ms.length≤110:=by have:=hsm.1;rwa [pl_len]at this);obtain⟨i0,hi0,hz0,hz1,hz2⟩:=info_parts infoNaming;obtain⟨ao,cap,rfl,_,_⟩:=rdm_form hv;have HV:=Lib.hid hv;have HS:=Lib.hid hsm;clear hv hsm;go_enter Tryz.func28,Tryz.ntmps28;go_wp2_with (at_make;refine wpList_make_full _ rfl (.tmp 10) (.tmp 10) 83 rfl (w.heap.size+1) 91 i0 _ 2 Tryz.underlying83 hi0 hz0 hz1 .i64 .i64 _ _ ms.length rfl rfl (by rfl) (by rfl) (by rw[hz2];omega) (by unfold maxLen;omega) (by simp) ?_);intro W1 ho1 hg1;have hD:Below w.heap.size w (w.alloc (.cells #[.slice ao ms.length cap, .int .i64 most, .int .i64 room] 24)):=(Below.refl _ w).alloc (Nat.le_refl _) _;have hP1:W1.heap[w.heap.size]? = some (.cells #[.slice ao ms.length cap, .int .i64 most, .int .i64 room] 24 (0,0)):=(hg1.block w.heap.size (by simp) (by simp)).trans (heap_alloc_new w _);have hB1:Below w.heap.size w W1:=hD.grown hg1 hD.size (fun j ej=>by cases ej);have hr1:=row_made ho1;have hs1:=hr1.lt;clear hD hg1 ho1;obtain⟨p0,p1,p2⟩:=cells3 hP1;go_wp2_with fail;clear p0 p1 p2;go_loopw [15] (fun i' wr=>∃k:Nat,i' = .int .i64 k∧k≤ms.length∧Hid (RowN (w.heap.size+1) ms.length (fun i=>nmTo (pl ms) i (0,0) k) wr)∧Below (w.heap.size+1) W1 wr) (fun i' _=>ms.length-(intOf i').toNat)
 case atStart=>exact⟨0,rfl,Nat.zero_le _,Lib.hid hr1,Below.refl _ _⟩
 case round =>
  obtain⟨k,rfl,hk,hR,hBr⟩:=hrel;have hPr:=(hBr.block _ (by omega)).trans hP1;have sB:=hBr.size;(have sW:w.heap.size<wr.heap.size:=by omega);have hBw:Below w.heap.size w wr:=hB1.trans (hBr.mono (by omega));by_cases hlt:k<ms.length
  · obtain⟨b,off,n,aon,capn,rfl,hb,hn,hmk, -,c0,c1,c2,c3,c4,c5,c6,c7⟩:=node_at (HV.out.below hBw) k hlt
    have hsucc:Hid (∀i:Nat,nmTo (pl ms) i (0,0) (k+1)=foldN i k (nmTo (pl ms) i (0,0) k) n.names):=Lib.hid (fun i=>by
     show foldN i k _ ((pl ms).getD k zeroN).names=_;rw[List.getD_eq_getElem?_getD,List.getElem?_eq_getElem (by rw[pl_len];exact hlt),hn]
     rfl)
    have hnl:n.names.length≤130:=(HS.out.2 n (by rw[←hn];exact List.getElem_mem _)).2
    have HNE:Hid (∀W,Below w.heap.size w W→Rd w.heap.size 2 (.slice aon n.names.length capn) n.names.length (ents n.names) W):=Lib.hid (fun W hb=>by
     have h1:ms[k]∈ms:=List.getElem_mem hlt;have h2:=Rd.below (HV.out.2 _ h1) hb;rw[hmk]at h2
     exact h2)
    clear hn hmk;go_wp2_with fail;refine fresh1 (P:=fun W=>Code.wp _ _ _ _ W) ?_;intro W2 hb2 hQ2 hs2;have hB2:Below (w.heap.size+1) W1 W2:=hBr.trans (hb2.mono (by omega));have hR2:=Lib.hid (hR.out.keep hb2);clear hQ2 c0 c1 c2 c3 c4 c5 c6 c7;go_loopw [23] (fun j' wj=>∃j:Nat,j' = .int .i64 j∧j≤n.names.length∧Hid (RowN (w.heap.size+1) ms.length (fun i=>foldN i k (nmTo (pl ms) i (0,0) k) (n.names.take j)) wj)∧Below (w.heap.size+1) W1 wj) (fun j' _=>n.names.length-(intOf j').toNat)
    case atStart=>exact⟨0,rfl,Nat.zero_le _,hR2,hB2⟩
    case round =>
     obtain⟨j,rfl,hj,hRj,hBj⟩:=hrel;have hPj:=(hBj.block _ (by omega)).trans hP1;obtain⟨p0,p1,p2⟩:=cells3 hPj;have sJ:=hBj.size;(have sWj:w.heap.size<wr.heap.size:=by omega);have hBwj:Below w.heap.size w wr:=hB1.trans (hBj.mono (by omega));by_cases hlj:j<n.names.length
     · obtain⟨b2,off2,cap2,e,_,_,hb2',_,hc⟩:=(HNE.out wr hBwj).at (by omega)
       injection e with e1 _ e2;subst e1;subst e2;have d0:=hc _ _ (ents_at0 n.names j hlj);have d1:wr.cell? ⟨b2,off2+j*2+1,none⟩=_:=hc (j*2+1) _ (ents_at1 n.names j hlj);obtain⟨f,hf⟩ : ∃f,f=n.names[j]:=⟨_,rfl⟩;rw[←hf]at d0 d1;have hstep:Hid (∀i:Nat,foldN i k (nmTo (pl ms) i (0,0) k) (n.names.take (j+1))=stepN i k (foldN i k (nmTo (pl ms) i (0,0) k) (n.names.take j)) f):=Lib.hid (fun i=>by rw[hf];exact foldN_succ _ _ _ _ j hlj);obtain⟨fx,fz⟩:=f;clear hc hf;go_wp2_with fail;refine fresh1 (P:=fun W=>Calls _ _ _ W _) ?_;intro W3 hb3 hQ3 hs3;have hB3:Below (w.heap.size+1) W1 W3:=hBj.trans (hb3.mono (by omega));have hP3:=(hB3.block _ (by omega)).trans hP1;have hR3:=Lib.hid (hRj.out.keep hb3);refine(has_any (pl ms) (some ⟨b,off,none⟩) ms.length cap most room fz W3 (pl_len ms).symm (by omega)).mono ?_;rintro e W4 ⟨rfl,hb4⟩;have hB4:Below (w.heap.size+1) W1 W4:=hB3.trans (hb4.mono (by omega));have hR4:=Lib.hid (hR3.out.keep hb4);have hQ4:=(hb4.block _ (by omega)).trans hQ3;(have q1:W4.cell? ⟨wr.heap.size,1,none⟩=some (.int .i64 fz):=by rw[Lib.cell_of_heap hQ4];rfl);clear p0 p1 p2 d0 d1 hQ3 hP3 hPj
       cases hi:inL (pl ms) fz with
       | false =>
          have hR5:Hid (RowN (w.heap.size+1) ms.length (fun i=>foldN i k (nmTo (pl ms) i (0,0) k) (n.names.take (j+1))) W4):=Lib.hid (hR4.out.same fun i hi2=>by
           rw[hstep.out i];unfold stepN;rw[if_neg];intro e;have e:fz=(i:Int):=e;rw[e,nat_in (by rw[pl_len];exact hi2)]at hi
           cases hi)
          clear hi;go_wp2_with fail;go_roundw
          case rel=>exact⟨j+1,by go_num,hlj,hR5,hB4⟩
          case measure=>simp[intOf];omega
       | true =>
          obtain⟨q,rfl,hq⟩:=in_nat hi;rw[pl_len]at hq;obtain⟨r0,r1,rf⟩:=hR4.out.cells q hq
          have hfl:(foldN q k (nmTo (pl ms) q (0,0) k) (n.names.take j)).1≤20000:=by
           have h1:=fold_le q k (n.names.take j) (nmTo (pl ms) q (0,0) k);have h2:=nm_le HS.out q (0,0) k;rw[List.length_take]at h1;have h3:((0,0):Nat × Int).1=0:=rfl;omega
          have hR5:Hid (∀u0 u1:Int,u0=((foldN q k (nmTo (pl ms) q (0,0) k) (n.names.take j)).1:Int)+1→u1=(k:Int)→RowN (w.heap.size+1) ms.length (fun i=>foldN i k (nmTo (pl ms) i (0,0) k) (n.names.take (j+1))) ((W4.drew.setCell ⟨w.heap.size+1,q*2,none⟩ (.int .i64 u0)).setCell ⟨w.heap.size+1,q*2+1,none⟩ (.int .i64 u1))):=Lib.hid (fun u0 u1 e0 e1=>by
           have h4:RowN (w.heap.size+1) ms.length (fun i=>foldN i k (nmTo (pl ms) i (0,0) k) (n.names.take j)) W4.drew:=hR4.out;refine h4.set q hq (fun i _ hne=> ?_) ?_ ?_
           · rw[hstep.out i]
             unfold stepN;rw[if_neg];intro e;have e:(q:Int)=(i:Int):=e;omega
           · rw[e0,hstep.out q]
             unfold stepN;rw[if_pos rfl];simp
           · rw[e1,hstep.out q]
             unfold stepN
             rw[if_pos rfl])
          (have q0:(0:Int)≤(q:Int):=by omega);(have q2:(q:Int)<(ms.length:Int):=by omega);generalize (foldN q k (nmTo (pl ms) q (0,0) k) (n.names.take j)).1=x at *;generalize (foldN q k (nmTo (pl ms) q (0,0) k) (n.names.take j)).2=y at *;have hwx:IntKind.i64.wrap ((x:Int)+1)=(x:Int)+1:=IntWalk.i64_in _ (by omega);clear hi hQ4;go_wp2_with fail;go_still_tail 13,(by kernel_rfl);change wpList _ _ _ _ _ W4.drew;have r0':W4.drew.cell? ⟨w.heap.size+1,q*2,none⟩=some (.int .i64 (x:Int)):=r0;have r1':W4.drew.cell? ⟨w.heap.size+1,q*2+1,none⟩=some (.int .i64 y):=r1;have rf' : ∀j,W4.drew.frozen? ⟨w.heap.size+1,j,none⟩=false:=rf;have hB5:Below (w.heap.size+1) W1 W4.drew:=hB4.drew;have hR6:=hR5;clear r0 r1 rf q1 hR5;generalize W4.drew=W5 at *;go_wp2_with fail;go_roundw
          case rel=>exact⟨j+1,by go_num,hlj,Lib.hid (hR6.out _ _ rfl rfl),(hB5.setCell (p:=⟨w.heap.size+1,q*2,none⟩) (Nat.le_refl _) _).setCell (p:=⟨w.heap.size+1,q*2+1,none⟩) (Nat.le_refl _) _⟩
          case measure=>simp[intOf];omega
     · have hje:j=n.names.length:=by omega
       have hRx:Hid (RowN (w.heap.size+1) ms.length (fun i=>nmTo (pl ms) i (0,0) (k+1)) wr):=Lib.hid (hRj.out.same fun i _=>by rw[hsucc.out i,hje,List.take_length]);(have hI2:decide (j<n.names.length)=false:=by simp;omega);clear hje hlj;go_wp2_with fail;go_roundw
       case rel=>exact⟨k+1,by go_num,hlt,hRx,hBj⟩
       case measure=>simp[intOf];omega
  · have hke:k=ms.length:=by omega
    have hI2:decide (k<ms.length)=false:=by simp;omega
    have HX:Hid (RowN (w.heap.size+1) (pl ms).length (fun i=>nmL (pl ms) i (0,0)) wr):=Lib.hid (by
     have:=hR.out;rw[hke,←pl_len ms]at this
     exact this)
    have HLN:=Lib.hid (pl_len ms);clear hke hlt;go_wp2_with fail;go_ret;exact⟨w.heap.size+1,ms.length,by rw[HLN.out];rfl,HX.out,hBw⟩
end Go.Proofs.YtkoaicabkgaglaaGreatDoor
