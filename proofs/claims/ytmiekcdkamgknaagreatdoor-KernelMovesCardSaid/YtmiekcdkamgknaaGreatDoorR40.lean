import Derived.Test.YtmiekcdkamgknaaGreatDoorR39
import Derived.Test.YtmiekcdkamgknaaGreatDoorR24
namespace Go.Proofs.YtmiekcdkamgknaaGreatDoor
open Go.RowKit Go.Shelf
attribute [local go_sem ↓] Go.wp_at_zero Go.wp_at_succ
def OkTo (p:Nat→Bool)(k:Nat):Prop:=∀i,i<k→p i=true
theorem okTo_succ {p:Nat→Bool}{k:Nat}(h:OkTo p k)(hk:p k=true):OkTo p (k+1):=fun i hi=>by
 rcases Nat.lt_or_ge i k with h1 | h1
 · exact h i h1
 · obtain rfl:i=k:=by omega
   exact hk
theorem okTo_all {p:Nat→Bool}{k:Nat}(h:OkTo p k):(List.range k).all p=true:=(range_all p k).2 h
theorem okTo_bad {p:Nat→Bool}{k n:Nat}(hk:k<n)(h:p k=false):(List.range n).all p=false:=by
 rw[Bool.eq_false_iff];intro hc;have:=(range_all p n).1 hc k hk;rw[h]at this
 cases this
def headR (l:List NodeL)(most room:Int):Bool:= !decide (l.length=0) && !decide (most<l.length) && !decide (room<bytesL l) && decide ((atI l 0).kind=2)
theorem rightR_eq (l:List NodeL)(most room:Int):rightR l most room=(headR l most room && (List.range l.length).all fun i=>okR l i (atI l i)):=rfl
set_option maxRecDepth 100000 in
set_option maxHeartbeats 8000000 in
theorem rright_any (v:Value)(ms:List NodeM)(most room:Int)(w:World)(hv:RdM w.heap.size v ms w)(hsm:Small (pl ms))(hfit:FitD (pl ms)) :
 Calls Tryz.prog 19 #[.agg #[v, .int .i64 most, .int .i64 room]] w fun e w'=>e = .returned (.bool (rightR (pl ms) most room))∧Below w.heap.size w w':=by
 (have hl:ms.length≤110:=by have:=hsm.1;rwa [pl_len]at this);(have hbl:bytesL (pl ms)≤220000:=by have:=bytes_take_le hsm (pl ms).length;rwa [List.take_length]at this);obtain⟨ao,cap,rfl,_,_⟩:=rdm_form hv;have HV:=zd hv;have HS:=zd hsm;have HF:=zd hfit;clear hv hsm hfit;by_cases h0:ms.length=0
 · have hI:((ms.length:Int) == 0)=true:=by rw[beq_iff_eq];omega
   have HE:Hid (rightR (pl ms) most room=false):=zd (by rw[rightR_eq];unfold headR;rw[pl_len,h0];rfl);clear h0;go_enter Tryz.func19,Tryz.ntmps19;go_wp2_with fail;refine fresh1 (P:=fun W=>Code.wp _ _ _ _ W) ?_;intro W0 hb0 hP hs0;obtain⟨p0,p1,p2⟩:=cells3 hP;have pp0:=cell_regrown p0;have pp1:=cell_regrown p1;have pp2:=cell_regrown p2;refine wp_region_quiet_below (by kernel_rfl) (by kernel_rfl) ?_
   repeat (go_big_quiet_step (fail))
   refine wpQuiet_nil ?_;clear pp0 pp1 pp2;intro _ hw';obtain⟨⟨dq,osq⟩,hw''⟩:=hw';have hbg:Below W0.heap.size W0 _:=below_regrown W0 dq osq;rw[←hw'']at hbg;clear hw'';rename_i W2;have hB2:=ret_tr hb0 hbg;go_wp2_with fail;go_ret;exact⟨ret_bool HE.out.symm,hB2⟩
 (have hI0:((ms.length:Int) == 0)=false:=by rw[beq_eq_false_iff_ne];omega);by_cases h1:most<(ms.length:Int)
 · have hI:decide (most<(ms.length:Int))=true:=by simpa using h1
   have HE:Hid (rightR (pl ms) most room=false):=zd (by rw[rightR_eq];unfold headR;rw[pl_len];simp[h1]);clear h0 h1;go_enter Tryz.func19,Tryz.ntmps19;go_wp2_with fail;refine fresh1 (P:=fun W=>Code.wp _ _ _ _ W) ?_;intro W0 hb0 hP hs0;obtain⟨p0,p1,p2⟩:=cells3 hP;have pp0:=cell_regrown p0;have pp1:=cell_regrown p1;have pp2:=cell_regrown p2;refine wp_region_quiet_below (by kernel_rfl) (by kernel_rfl) ?_
   repeat (go_big_quiet_step (fail))
   refine wpQuiet_nil ?_;clear pp0 pp1 pp2;intro _ hw';obtain⟨⟨dq,osq⟩,hw''⟩:=hw';have hbg:Below W0.heap.size W0 _:=below_regrown W0 dq osq;rw[←hw'']at hbg;clear hw'';rename_i W2;have hB2:=ret_tr hb0 hbg;go_wp2_with fail;go_ret;exact⟨ret_bool HE.out.symm,hB2⟩
 (have hI1:decide (most<(ms.length:Int))=false:=by simpa using h1);by_cases h2:room<(bytesL (pl ms):Int)
 · have hI:decide (room<(bytesL (pl ms):Int))=true:=by simpa using h2
   have HE:Hid (rightR (pl ms) most room=false):=zd (by rw[rightR_eq];unfold headR;simp[h2]);clear h0 h1 h2;go_enter Tryz.func19,Tryz.ntmps19;go_wp2_with fail;refine fresh1 (P:=fun W=>Code.wp _ _ _ _ W) ?_;intro W0 hb0 hP hs0;obtain⟨p0,p1,p2⟩:=cells3 hP;have pp0:=cell_regrown p0;have pp1:=cell_regrown p1;have pp2:=cell_regrown p2
   have HBy : ∀W,Below W0.heap.size W0 W→Calls Tryz.prog 35 #[.agg #[.slice ao ms.length cap, .int .i64 most, .int .i64 room]] W fun e w'=>e = .returned (.int .i64 (bytesL (pl ms)))∧Below W.heap.size W w' :=
    fun W hb=>rbytes_any _ ms most room W (rdm_keep HV.out (ret_tr hb0 hb)) HS.out
   generalize hby:bytesL (pl ms)=y at *;refine wp_region_quiet_below (by kernel_rfl) (by kernel_rfl) ?_
   repeat (go_big_quiet_step ((go_at_call 35;exact Calls.regrown_of (HBy _ (below_regrown W0 _ _)))))
   refine wpQuiet_nil ?_;clear pp0 pp1 pp2;intro _ hw';obtain⟨⟨dq,osq⟩,hw''⟩:=hw';have hbg:Below W0.heap.size W0 _:=below_regrown W0 dq osq;rw[←hw'']at hbg;clear hw'';rename_i W2;have hB2:=ret_tr hb0 hbg;go_wp2_with fail;go_ret;exact⟨ret_bool HE.out.symm,hB2⟩
 (have hI2:decide (room<(bytesL (pl ms):Int))=false:=by simpa using h2);obtain⟨b,off,n,aon,capn,rfl,hb,hn, -, -,c0, -⟩:=node_at HV.out 0 (by omega);rw[Nat.zero_mul,Nat.add_zero]at c0
 have hat:atI (pl ms) 0=n:=by
  rw[←hn];exact at_nat (pl ms) 0 (by rw[pl_len];omega)
 (have h00:(0:Int)<(ms.length:Int):=by omega);by_cases h3:n.kind=2
 · have hI3:(n.kind != 2)=false:=by simpa using h3
   have HE:Hid (rightR (pl ms) most room=(List.range (pl ms).length).all fun i=>okR (pl ms) i (atI (pl ms) i)):=zd (by rw[rightR_eq];unfold headR;rw[pl_len,hat];simp[h0,h1,h2,h3]);clear h0 h1 h2 h3 hat hn;go_enter Tryz.func19,Tryz.ntmps19;go_wp2_with fail;refine fresh1 (P:=fun W=>Code.wp _ _ _ _ W) ?_;intro W0 hb0 hP hs0;obtain⟨p0,p1,p2⟩:=cells3 hP;have pp0:=cell_regrown p0;have pp1:=cell_regrown p1;have pp2:=cell_regrown p2;have cc0:=cell_regrown ((hb0.cell (p:=⟨b,off,none⟩) hb).trans c0)
   have HBy : ∀W,Below W0.heap.size W0 W→Calls Tryz.prog 35 #[.agg #[.slice (some ⟨b,off,none⟩) ms.length cap, .int .i64 most, .int .i64 room]] W fun e w'=>e = .returned (.int .i64 (bytesL (pl ms)))∧Below W.heap.size W w' :=
    fun W hb=>rbytes_any _ ms most room W (rdm_keep HV.out (ret_tr hb0 hb)) HS.out
   generalize hby:bytesL (pl ms)=y at *;refine wp_region_quiet_below (by kernel_rfl) (by kernel_rfl) ?_
   repeat (go_big_quiet_step ((go_at_call 35;exact Calls.regrown_of (HBy _ (below_regrown W0 _ _)))))
   refine wpQuiet_nil ?_;clear pp0 pp1 pp2 cc0;intro _ hw';obtain⟨⟨dq,osq⟩,hw''⟩:=hw';have hbg:Below W0.heap.size W0 _:=below_regrown W0 dq osq;rw[←hw'']at hbg;clear hw'';rename_i W2;have hB2:=ret_tr hb0 hbg;have hP2:=zd ((hbg.block _ (by omega)).trans hP);have hs2:=hbg.size;clear hbg hP p0 p1 p2 HBy;go_wp2_with fail;go_loopw [3] (fun i' wr=>∃k:Nat,i' = .int .i64 k∧k≤ms.length∧Hid (OkTo (fun i=>okR (pl ms) i (atI (pl ms) i)) k)∧Below W2.heap.size W2 wr) (fun i' _=>ms.length-(intOf i').toNat)
   case atStart=>exact⟨0,rfl,Nat.zero_le _,zd (fun i hi=>absurd hi (Nat.not_lt_zero _)),Below.refl _ _⟩
   case round =>
    obtain⟨k,rfl,hk,hO,hBr⟩:=hrel;obtain⟨p0,p1,p2⟩:=cells3 ((hBr.block _ (by omega)).trans hP2.out);have hBw:=ret_tr hB2 hBr;by_cases hlt:k<ms.length
    · go_wp2_with fail
      refine(right_any (.slice (some ⟨b,off,none⟩) ms.length cap) ms most room k hlt wr (rdm_keep HV.out hBw) HS.out HF.out).mono ?_;rintro e W3 ⟨rfl,hb3⟩;have hB3:=ret_tr hBr hb3
      cases hok:okR (pl ms) k (atI (pl ms) k)with
      | false =>
         have HX:Hid (rightR (pl ms) most room=false):=zd (by rw[HE.out];exact okTo_bad (by rw[pl_len];exact hlt) hok);clear hok;go_wp2_with fail;go_ret;exact⟨ret_bool HX.out.symm,ret_tr hB2 hB3⟩
      | true =>
         have HX:=zd (okTo_succ hO.out hok);clear hok;go_wp2_with fail;go_roundw
         case rel=>exact⟨k+1,by go_num,hlt,HX,hB3⟩
         case measure=>simp[intOf];omega
    · have hke:k=ms.length:=by omega
      have HX:Hid (rightR (pl ms) most room=true):=zd (by rw[HE.out,pl_len,←hke];exact okTo_all hO.out);(have hI5:decide (k<ms.length)=false:=by simp;omega);clear hke hlt;go_wp2_with fail;go_ret;exact⟨ret_bool HX.out.symm,hBw⟩
 · have hI3:(n.kind != 2)=true:=by simpa using h3
   have HE:Hid (rightR (pl ms) most room=false):=zd (by rw[rightR_eq];unfold headR;rw[hat];simp[h3]);clear h0 h1 h2 h3 hat hn;go_enter Tryz.func19,Tryz.ntmps19;go_wp2_with fail;refine fresh1 (P:=fun W=>Code.wp _ _ _ _ W) ?_;intro W0 hb0 hP hs0;obtain⟨p0,p1,p2⟩:=cells3 hP;have pp0:=cell_regrown p0;have pp1:=cell_regrown p1;have pp2:=cell_regrown p2;have cc0:=cell_regrown ((hb0.cell (p:=⟨b,off,none⟩) hb).trans c0)
   have HBy : ∀W,Below W0.heap.size W0 W→Calls Tryz.prog 35 #[.agg #[.slice (some ⟨b,off,none⟩) ms.length cap, .int .i64 most, .int .i64 room]] W fun e w'=>e = .returned (.int .i64 (bytesL (pl ms)))∧Below W.heap.size W w' :=
    fun W hb=>rbytes_any _ ms most room W (rdm_keep HV.out (ret_tr hb0 hb)) HS.out
   generalize hby:bytesL (pl ms)=y at *;refine wp_region_quiet_below (by kernel_rfl) (by kernel_rfl) ?_
   repeat (go_big_quiet_step ((go_at_call 35;exact Calls.regrown_of (HBy _ (below_regrown W0 _ _)))))
   refine wpQuiet_nil ?_;clear pp0 pp1 pp2 cc0;intro _ hw';obtain⟨⟨dq,osq⟩,hw''⟩:=hw';have hbg:Below W0.heap.size W0 _:=below_regrown W0 dq osq;rw[←hw'']at hbg;clear hw'';rename_i W2;have hB2:=ret_tr hb0 hbg;go_wp2_with fail;go_ret;exact⟨ret_bool HE.out.symm,hB2⟩
end Go.Proofs.YtmiekcdkamgknaaGreatDoor
