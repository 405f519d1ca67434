import Derived.Test.YtinoogmaikhpjaaGreatDoorR15
namespace Go.Proofs.YtinoogmaikhpjaaGreatDoor
open Go.RowKit Go.Shelf
attribute [local go_sem ↓] Go.wp_at_zero Go.wp_at_succ
theorem bel_al2 {w W0 W1:World}{o:Obj}(h:Below w.heap.size w W0)(hs:W0.heap.size=w.heap.size+1)(g:Below W0.heap.size W0 W1):Below w.heap.size w (W1.alloc o) :=
 (h.trans (g.mono (by omega))).alloc (by have:=g.size;omega) o
theorem rootR_step (l:List NodeL)(f:Nat)(j:Int)(h:j≠0):rootR l (f+1) j=if gotB l j && decide ((atI l j).kind=2)then rootR l f (atI l j).up else false:=by
 conv=>lhs;unfold rootR
 rw[if_neg h]
set_option maxRecDepth 100000 in
set_option maxHeartbeats 2000000 in
theorem rooted_any (v:Value)(ms:List NodeM)(most room i:Int)(w:World)(hv:RdM w.heap.size v ms w)(hl:ms.length≤10000) :
 Calls Tryz.prog 63 #[.agg #[v, .int .i64 most, .int .i64 room], .int .i64 i] w fun e w'=>e = .returned (.bool (rootR (pl ms) (ms.length+1) i))∧Below w.heap.size w w':=by
 obtain⟨ao,cap,rfl,_,_⟩:=rdm_form hv;have HV:=Lib.hid hv;clear hv;go_enter Tryz.func63,Tryz.ntmps63;go_wp2_with fail;refine fresh1 (P:=fun W=>Code.wp _ _ _ _ W) ?_;intro W0 hb0 hP hs0;go_loopw [1,5] (fun j' k' wr=>∃(k:Nat) (j:Int),j' = .int .i64 j∧k' = .int .i64 k∧k≤ms.length+1∧Hid (rootR (pl ms) (ms.length+1) i=rootR (pl ms) (ms.length+1-k) j)∧Below W0.heap.size W0 wr) (fun _ k' _=>ms.length+1-(intOf k').toNat)
 case atStart=>exact⟨0,i,rfl,rfl,Nat.zero_le _,Lib.hid rfl,Below.refl _ _⟩
 case round =>
  obtain⟨k,j,rfl,rfl,hk,hR,hBr⟩:=hrel;have hPr:=(hBr.block _ (by omega)).trans hP;obtain⟨p0,p1,p2⟩:=cells3 hPr;have hBw:Below w.heap.size w wr:=hb0.trans (hBr.mono (by omega));have sB:=hBr.size;by_cases hlt:k≤ms.length
  · have hI:decide ((k:Int)≤(ms.length:Int))=true:=by simpa using hlt
    obtain⟨f,hf,hf2⟩ : ∃f,ms.length+1-k=f+1∧f=ms.length+1-(k+1):=⟨ms.length-k,by omega,by omega⟩;have hR':=hR.out;rw[hf]at hR';by_cases hj:j=0
    · have hJ:(j == 0)=true:=by simpa using hj
      have HF:Hid (rootR (pl ms) (ms.length+1) i=true):=Lib.hid (by rw[hR',hj];rfl);clear hR' hj hf hf2;go_wp2_with fail;go_ret;exact⟨ret_bool HF.out.symm,hBw⟩
    · have hJ:(j == 0)=false:=by simpa using hj
      rw[rootR_step _ _ _ hj]at hR';have HR':=Lib.hid hR';clear hR' hj hf;go_wp2_with fail;refine(rget_any (.slice ao ms.length cap) ms most room j wr (rdm_keep HV.out hBw) hl).mono ?_;intro e W1 hget;obtain⟨v1,rfl,hrn,hb1⟩:=hget;obtain⟨aon,capn,ev,_,_⟩:=Rd.form hrn;have ev':v1 = .slice aon (getL (pl ms) j).names.length capn:=ev;subst ev';have hB1:=ret_tr hBr hb1;clear hrn ev p0 p1 p2
      cases hg:gotB (pl ms) j with
      | false =>
         have HF:Hid (rootR (pl ms) (ms.length+1) i=false):=Lib.hid (by rw[HR'.out,hg];rfl);generalize getL (pl ms) j=n at *;clear hg;go_wp2_with fail;go_ret;exact⟨ret_bool HF.out.symm,bel_al2 hb0 hs0 hB1⟩
      | true =>
         (have hgl:getL (pl ms) j=atI (pl ms) j:=by unfold getL;rw[hg];rfl);rw[hgl];rw[hg]at HR';generalize atI (pl ms) j=n at *;by_cases h2:n.kind=2
         · have hK:(n.kind != 2)=false:=by simpa using h2
           (have hd:decide (n.kind=2)=true:=by simpa using h2);rw[hd]at HR';have HX:Hid (rootR (pl ms) (ms.length+1) i=rootR (pl ms) (ms.length+1-(k+1)) n.up):=Lib.hid (by rw[HR'.out,←hf2];rfl);clear h2 hd hg hgl HR';go_wp2_with fail;go_roundw
           case rel=>exact⟨k+1,n.up,rfl,by go_num,by omega,HX,hB1.alloc hB1.size _⟩
           case measure=>simp[intOf];omega
         · have hK:(n.kind != 2)=true:=by simpa using h2
           (have hd:decide (n.kind=2)=false:=by simpa using h2);rw[hd]at HR';have HF:Hid (rootR (pl ms) (ms.length+1) i=false):=Lib.hid (by rw[HR'.out];rfl);clear h2 hd hg hgl HR';go_wp2_with fail;go_ret;exact⟨ret_bool HF.out.symm,bel_al2 hb0 hs0 hB1⟩
  · have hke:k=ms.length+1:=by omega
    have HF:Hid (rootR (pl ms) (ms.length+1) i=false):=Lib.hid (by rw[hR.out,hke,Nat.sub_self];rfl);(have hI2:decide (k≤ms.length)=false:=by simp;omega);clear hke hlt;go_wp2_with fail;go_ret;exact⟨ret_bool HF.out.symm,hBw⟩
end Go.Proofs.YtinoogmaikhpjaaGreatDoor
