import Derived.Test.YtinoogmaikhpjaaGreatDoorR38
import Derived.OwnWalk
import Derived.StillTailTactics
namespace Go.Proofs.YtinoogmaikhpjaaGreatDoor
open Go.RowKit Go.Shelf
attribute [local go_sem ↓] Go.wp_at_zero Go.wp_at_succ
theorem infoNaming:(Tryz.prog.info? 98).map (fun i=>(i.zero,i.size,i.bytes))=some (some (.agg #[.int .i64 0, .int .i64 0]),2,16):=by kernel_rfl
theorem placed_split (l:List NodeL)(k:Int)(n:NodeL)(x:Nat)(y:Int):placedC l k n (x,y)=if((x:Int) == 0)=true then((n.names.length:Int) == 0 && n.up == 0)else if((x:Int) == 1)=true then(n.up == y && climbC l l.length k)else false:=by
 unfold placedC
 have hlen:((n.names.length:Int) == 0)=decide (n.names.length=0):=by
  rw[Bool.eq_iff_iff,beq_iff_eq,decide_eq_true_iff];omega
 have hx0:((x:Int) == 0)=decide (x=0):=by
  rw[Bool.eq_iff_iff,beq_iff_eq,decide_eq_true_iff];omega
 have hx1:((x:Int) == 1)=decide (x=1):=by
  rw[Bool.eq_iff_iff,beq_iff_eq,decide_eq_true_iff];omega
 have hup0:(n.up == 0)=decide (n.up=0):=rfl;have hupy:(n.up == y)=decide (n.up=y):=rfl;rw[hlen,hx0,hx1,hup0,hupy];simp only[decide_eq_true_iff]
set_option maxRecDepth 100000 in
set_option maxHeartbeats 2000000 in
theorem placed_any (v:Value)(ms:List NodeM)(most room:Int)(k x:Nat)(y:Int)(w:World)(hk:k<ms.length)(hv:RdM w.heap.size v ms w)(hl:ms.length≤10000) :
 Calls Tryz.prog 39 #[.agg #[v, .int .i64 most, .int .i64 room], .agg #[.int .i64 x, .int .i64 y], .int .i64 k] w fun e w'=>e = .returned (.bool (placedC (pl ms) k (atI (pl ms) k) (x,y)))∧Below w.heap.size w w':=by
 obtain⟨ao,cap,rfl,_,_⟩:=rdm_form hv;obtain⟨b,off,n,aon,capn,rfl,hb,hn, -,hrn,c0,c1,c2,c3,c4,c5,c6,c7⟩:=node_at hv k hk;have hat:=at_nat (pl ms) k (by rw[pl_len];exact hk);rw[hn]at hat;rw[hat];have HL:Hid (placedC (pl ms) k n (x,y)=if((x:Int) == 0)=true then((n.names.length:Int) == 0 && n.up == 0)else if((x:Int) == 1)=true then(n.up == y && climbC (pl ms) ms.length k)else false):=Lib.hid (by rw[placed_split,pl_len]);have HV:=Lib.hid hv;(have k0:(0:Int)≤(k:Int):=by omega);(have k1:(k:Int)<(ms.length:Int):=by omega);(have hb3 : ∀A B C:Obj,Below w.heap.size w (((w.alloc A).alloc B).alloc C):=fun A B C=>(((Below.refl _ w).alloc (Nat.le_refl _) A).alloc (by simp) B).alloc (by simp;omega) C);clear hv hn hat hrn;go_enter Tryz.func39,Tryz.ntmps39
 cases hx0:(x:Int) == 0 with
 | true =>
    rw[hx0,if_pos rfl]at HL
    cases hn0:(n.names.length:Int) == 0 with
    | false =>
       rw[hn0]at HL;go_wp2_with fail;go_ret;exact⟨ret_bool (by rw[HL.out];rfl),hb3 _ _ _⟩
    | true =>
       rw[hn0]at HL;go_wp2_with fail;go_ret;exact⟨ret_bool (by rw[HL.out];rfl),hb3 _ _ _⟩
 | false =>
    rw[hx0,if_neg (by decide)]at HL
    cases hx1:(x:Int) == 1 with
    | false =>
       rw[hx1,if_neg (by decide)]at HL;go_wp2_with fail;go_ret;exact⟨ret_bool HL.out.symm,hb3 _ _ _⟩
    | true =>
       rw[hx1,if_pos rfl]at HL
       cases hy:n.up == y with
       | false =>
          rw[hy]at HL;go_wp2_with fail;go_ret;exact⟨ret_bool (by rw[HL.out];rfl),hb3 _ _ _⟩
       | true =>
          rw[hy]at HL;go_wp2_with fail;refine fresh3 (P:=fun W=>Calls _ _ _ W _) ?_;intro W0 hb0 hP hQ hR hs0;refine(climbs_any (.slice (some ⟨b,off,none⟩) ms.length cap) ms most room k W0 (rdm_keep HV.out hb0) hl).mono ?_;rintro e W1 ⟨rfl,hb1⟩;go_wp2_with fail;go_ret;exact⟨ret_bool (by rw[HL.out];rfl),ret_tr hb0 hb1⟩
def RowN (g n:Nat)(f:Nat→Nat × Int)(W:World):Prop:=∃cur t,W.heap[g]? = some (.cells cur t (0,0))∧∀i,i<n→cur[i*2]? = some (.int .i64 ((f i).1:Int))∧cur[i*2+1]? = some (.int .i64 (f i).2)
theorem RowN.lt {g n:Nat}{f:Nat→Nat × Int}{W:World}(h:RowN g n f W):g<W.heap.size:=by
 obtain⟨cur,t,h,_⟩:=h;exact(Array.getElem?_eq_some_iff.1 h).1
theorem RowN.keep {g n:Nat}{f:Nat→Nat × Int}{W W':World}(h:RowN g n f W)(hb:Below W.heap.size W W'):RowN g n f W':=by
 have hlt:=h.lt;obtain⟨cur,t,h,hc⟩:=h;exact⟨cur,t,(hb.block g hlt).trans h,hc⟩
theorem RowN.cells {g n:Nat}{f:Nat→Nat × Int}{W:World}(h:RowN g n f W)(i:Nat)(hi:i<n):W.cell? ⟨g,i*2,none⟩=some (.int .i64 ((f i).1:Int))∧W.cell? ⟨g,i*2+1,none⟩=some (.int .i64 (f i).2)∧∀j,W.frozen? ⟨g,j,none⟩=false:=by
 obtain⟨cur,t,h,hc⟩:=h;exact⟨by rw[Lib.cell_of_heap h];exact(hc i hi).1,by rw[Lib.cell_of_heap h];exact(hc i hi).2,fun j=>Lib.frozen_of_heap h j⟩
theorem RowN.set {g n:Nat}{f f':Nat→Nat × Int}{W:World}{u0 u1:Int}(h:RowN g n f W)(q:Nat)(hq:q<n)(hf : ∀i,i<n→i≠q→f' i=f i)(e0:u0=((f' q).1:Int))(e1:u1=(f' q).2):RowN g n f' ((W.setCell ⟨g,q*2,none⟩ (.int .i64 u0)).setCell ⟨g,q*2+1,none⟩ (.int .i64 u1)):=by
 subst e0 e1;obtain⟨cur,t,h,hc⟩:=h;have hs0:=(Array.getElem?_eq_some_iff.1 (hc q hq).1).1;have hs1:=(Array.getElem?_eq_some_iff.1 (hc q hq).2).1;refine⟨_,t,heap_set (heap_set h),fun i hi=> ?_⟩;by_cases e:i=q
 · subst e
   refine⟨?_,?_⟩
   · rw[Array.getElem?_setIfInBounds_ne (by omega),Array.getElem?_setIfInBounds_self_of_lt hs0]
   · rw[Array.getElem?_setIfInBounds_self_of_lt (by rw[Array.size_setIfInBounds];exact hs1)]
 · rw[hf i hi e]
   refine⟨?_,?_⟩
   · rw[Array.getElem?_setIfInBounds_ne (by omega),Array.getElem?_setIfInBounds_ne (by omega)]
     exact(hc i hi).1
   · rw[Array.getElem?_setIfInBounds_ne (by omega),Array.getElem?_setIfInBounds_ne (by omega)]
     exact(hc i hi).2
theorem RowN.same {g n:Nat}{f f':Nat→Nat × Int}{W:World}(h:RowN g n f W)(hf : ∀i,i<n→f' i=f i):RowN g n f' W:=by
 obtain⟨cur,t,h,hc⟩:=h;exact⟨cur,t,h,fun i hi=>by rw[hf i hi];exact hc i hi⟩
theorem row_made {g base n:Nat}{e:TypeId}{W:World}(h:W.ownsRow base e 2 (.slice (some ⟨g,0,none⟩) n n) n (madeCells (Value.agg #[.int .i64 0, .int .i64 0]).cells (n*2)).toList):RowN g n (fun _=>(0,0)) W:=by
 rcases h.2 with⟨e1,_⟩ | ⟨g',cap,cur,e1,_,hh,_,_,hs,ht⟩
 · cases e1
 · injection e1 with e1 _ e2
   injection e1 with e1;injection e1 with e1;subst e1 e2
   have hc : ∀j,j<n*2→cur[j]? = some (.int .i64 0):=fun j hj=>by
    have h1:cur.toList[j]? = (madeCells (Value.agg #[.int .i64 0, .int .i64 0]).cells (n*2)).toList[j]?:= by
     rw[←ht,List.getElem?_take_of_lt hj]
    rw[Array.getElem?_toList,Array.getElem?_toList]at h1;rw[h1];unfold madeCells;rw[Array.getElem?_map,Array.getElem?_range,if_pos hj];(have h2:j % 2=0∨j % 2=1:=by omega);show some _=_;congr 1;rcases h2 with h2 | h2
    · show(#[Value.int .i64 0,Value.int .i64 0]:Array Value)[j % 2]! = _
      rw[h2];rfl
    · show(#[Value.int .i64 0,Value.int .i64 0]:Array Value)[j % 2]! = _
      rw[h2];rfl
   exact⟨cur,_,hh,fun i hi=>⟨hc _ (by omega),hc _ (by omega)⟩⟩
def NamingsIs (l:List NodeL)(e:Ending)(W W':World):Prop:=∃g cap,e = .returned (.slice (some ⟨g,0,none⟩) l.length cap)∧RowN g l.length (fun i=>nmL l i (0,0)) W'∧Below W.heap.size W W'
set_option maxRecDepth 100000 in
set_option maxHeartbeats 4000000 in
theorem namings_any (v:Value)(ms:List NodeM)(most room:Int)(w:World)(hv:RdM w.heap.size v ms w)(hsm:Small (pl ms)) :
 Calls Tryz.prog 27 #[.agg #[v, .int .i64 most, .int .i64 room]] w fun e w'=>NamingsIs (pl ms) e w w':=by
 (have hl:ms.length≤110:=by have:=hsm.1;rwa [pl_len]at this);obtain⟨i0,hi0,hz0,hz1,hz2⟩:=info_parts infoNaming;obtain⟨ao,cap,rfl,_,_⟩:=rdm_form hv;have HV:=Lib.hid hv;have HS:=Lib.hid hsm;clear hv hsm;go_enter Tryz.func27,Tryz.ntmps27;go_wp2_with (at_make;refine wpList_make_full _ rfl (.tmp 10) (.tmp 10) 90 rfl (w.heap.size+1) 98 i0 _ 2 Tryz.underlying90 hi0 hz0 hz1 .i64 .i64 _ _ ms.length rfl rfl (by rfl) (by rfl) (by rw[hz2];omega) (by unfold maxLen;omega) (by simp) ?_);intro W1 ho1 hg1;have hD:Below w.heap.size w (w.alloc (.cells #[.slice ao ms.length cap, .int .i64 most, .int .i64 room] 24)):=(Below.refl _ w).alloc (Nat.le_refl _) _;have hP1:W1.heap[w.heap.size]? = some (.cells #[.slice ao ms.length cap, .int .i64 most, .int .i64 room] 24 (0,0)):=(hg1.block w.heap.size (by simp) (by simp)).trans (heap_alloc_new w _);have hB1:Below w.heap.size w W1:=hD.grown hg1 hD.size (fun j ej=>by cases ej);have hr1:=row_made ho1;have hs1:=hr1.lt;clear hD hg1 ho1;obtain⟨p0,p1,p2⟩:=cells3 hP1;go_wp2_with fail;clear p0 p1 p2;go_loopw [15] (fun i' wr=>∃k:Nat,i' = .int .i64 k∧k≤ms.length∧Hid (RowN (w.heap.size+1) ms.length (fun i=>nmTo (pl ms) i (0,0) k) wr)∧Below (w.heap.size+1) W1 wr) (fun i' _=>ms.length-(intOf i').toNat)
 case atStart=>exact⟨0,rfl,Nat.zero_le _,Lib.hid hr1,Below.refl _ _⟩
 case round =>
  obtain⟨k,rfl,hk,hR,hBr⟩:=hrel;have hPr:=(hBr.block _ (by omega)).trans hP1;have sB:=hBr.size;(have sW:w.heap.size<wr.heap.size:=by omega);have hBw:Below w.heap.size w wr:=hB1.trans (hBr.mono (by omega));by_cases hlt:k<ms.length
  · obtain⟨b,off,n,aon,capn,rfl,hb,hn,hmk, -,c0,c1,c2,c3,c4,c5,c6,c7⟩:=node_at (HV.out.below hBw) k hlt
    have hsucc:Hid (∀i:Nat,nmTo (pl ms) i (0,0) (k+1)=foldN i k (nmTo (pl ms) i (0,0) k) n.names):=Lib.hid (fun i=>by
     show foldN i k _ ((pl ms).getD k zeroN).names=_;rw[List.getD_eq_getElem?_getD,List.getElem?_eq_getElem (by rw[pl_len];exact hlt),hn]
     rfl)
    have hnl:n.names.length≤130:=(HS.out.2 n (by rw[←hn];exact List.getElem_mem _)).2
    have HNE:Hid (∀W,Below w.heap.size w W→Rd w.heap.size 2 (.slice aon n.names.length capn) n.names.length (ents n.names) W):=Lib.hid (fun W hb=>by
     have h1:ms[k]∈ms:=List.getElem_mem hlt;have h2:=Rd.below (HV.out.2 _ h1) hb;rw[hmk]at h2
     exact h2)
    clear hn hmk;go_wp2_with fail;refine fresh1 (P:=fun W=>Code.wp _ _ _ _ W) ?_;intro W2 hb2 hQ2 hs2;have hB2:Below (w.heap.size+1) W1 W2:=hBr.trans (hb2.mono (by omega));have hR2:=Lib.hid (hR.out.keep hb2);clear hQ2 c0 c1 c2 c3 c4 c5 c6 c7;go_loopw [23] (fun j' wj=>∃j:Nat,j' = .int .i64 j∧j≤n.names.length∧Hid (RowN (w.heap.size+1) ms.length (fun i=>foldN i k (nmTo (pl ms) i (0,0) k) (n.names.take j)) wj)∧Below (w.heap.size+1) W1 wj) (fun j' _=>n.names.length-(intOf j').toNat)
    case atStart=>exact⟨0,rfl,Nat.zero_le _,hR2,hB2⟩
    case round =>
     obtain⟨j,rfl,hj,hRj,hBj⟩:=hrel;have hPj:=(hBj.block _ (by omega)).trans hP1;obtain⟨p0,p1,p2⟩:=cells3 hPj;have sJ:=hBj.size;(have sWj:w.heap.size<wr.heap.size:=by omega);have hBwj:Below w.heap.size w wr:=hB1.trans (hBj.mono (by omega));by_cases hlj:j<n.names.length
     · obtain⟨b2,off2,cap2,e,_,_,hb2',_,hc⟩:=(HNE.out wr hBwj).at (by omega)
       injection e with e1 _ e2;subst e1;subst e2;have d0:=hc _ _ (ents_at0 n.names j hlj);have d1:wr.cell? ⟨b2,off2+j*2+1,none⟩=_:=hc (j*2+1) _ (ents_at1 n.names j hlj);obtain⟨f,hf⟩ : ∃f,f=n.names[j]:=⟨_,rfl⟩;rw[←hf]at d0 d1;have hstep:Hid (∀i:Nat,foldN i k (nmTo (pl ms) i (0,0) k) (n.names.take (j+1))=stepN i k (foldN i k (nmTo (pl ms) i (0,0) k) (n.names.take j)) f):=Lib.hid (fun i=>by rw[hf];exact foldN_succ _ _ _ _ j hlj);obtain⟨fx,fz⟩:=f;clear hc hf;go_wp2_with fail;refine fresh1 (P:=fun W=>Calls _ _ _ W _) ?_;intro W3 hb3 hQ3 hs3;have hB3:Below (w.heap.size+1) W1 W3:=hBj.trans (hb3.mono (by omega));have hP3:=(hB3.block _ (by omega)).trans hP1;have hR3:=Lib.hid (hRj.out.keep hb3);refine(has_any (pl ms) (some ⟨b,off,none⟩) ms.length cap most room fz W3 (pl_len ms).symm (by omega)).mono ?_;rintro e W4 ⟨rfl,hb4⟩;have hB4:Below (w.heap.size+1) W1 W4:=hB3.trans (hb4.mono (by omega));have hR4:=Lib.hid (hR3.out.keep hb4);have hQ4:=(hb4.block _ (by omega)).trans hQ3;(have q1:W4.cell? ⟨wr.heap.size,1,none⟩=some (.int .i64 fz):=by rw[Lib.cell_of_heap hQ4];rfl);clear p0 p1 p2 d0 d1 hQ3 hP3 hPj
       cases hi:inL (pl ms) fz with
       | false =>
          have hR5:Hid (RowN (w.heap.size+1) ms.length (fun i=>foldN i k (nmTo (pl ms) i (0,0) k) (n.names.take (j+1))) W4):=Lib.hid (hR4.out.same fun i hi2=>by
           rw[hstep.out i];unfold stepN;rw[if_neg];intro e;have e:fz=(i:Int):=e;rw[e,nat_in (by rw[pl_len];exact hi2)]at hi
           cases hi)
          clear hi;go_wp2_with fail;go_roundw
          case rel=>exact⟨j+1,by go_num,hlj,hR5,hB4⟩
          case measure=>simp[intOf];omega
       | true =>
          obtain⟨q,rfl,hq⟩:=in_nat hi;rw[pl_len]at hq;obtain⟨r0,r1,rf⟩:=hR4.out.cells q hq
          have hfl:(foldN q k (nmTo (pl ms) q (0,0) k) (n.names.take j)).1≤20000:=by
           have h1:=fold_le q k (n.names.take j) (nmTo (pl ms) q (0,0) k);have h2:=nm_le HS.out q (0,0) k;rw[List.length_take]at h1;have h3:((0,0):Nat × Int).1=0:=rfl;omega
          have hR5:Hid (∀u0 u1:Int,u0=((foldN q k (nmTo (pl ms) q (0,0) k) (n.names.take j)).1:Int)+1→u1=(k:Int)→RowN (w.heap.size+1) ms.length (fun i=>foldN i k (nmTo (pl ms) i (0,0) k) (n.names.take (j+1))) ((W4.drew.setCell ⟨w.heap.size+1,q*2,none⟩ (.int .i64 u0)).setCell ⟨w.heap.size+1,q*2+1,none⟩ (.int .i64 u1))):=Lib.hid (fun u0 u1 e0 e1=>by
           have h4:RowN (w.heap.size+1) ms.length (fun i=>foldN i k (nmTo (pl ms) i (0,0) k) (n.names.take j)) W4.drew:=hR4.out;refine h4.set q hq (fun i _ hne=> ?_) ?_ ?_
           · rw[hstep.out i]
             unfold stepN;rw[if_neg];intro e;have e:(q:Int)=(i:Int):=e;omega
           · rw[e0,hstep.out q]
             unfold stepN;rw[if_pos rfl];simp
           · rw[e1,hstep.out q]
             unfold stepN
             rw[if_pos rfl])
          (have q0:(0:Int)≤(q:Int):=by omega);(have q2:(q:Int)<(ms.length:Int):=by omega);generalize (foldN q k (nmTo (pl ms) q (0,0) k) (n.names.take j)).1=x at *;generalize (foldN q k (nmTo (pl ms) q (0,0) k) (n.names.take j)).2=y at *;have hwx:IntKind.i64.wrap ((x:Int)+1)=(x:Int)+1:=IntWalk.i64_in _ (by omega);clear hi hQ4;go_wp2_with fail;go_still_tail 13,(by kernel_rfl);change wpList _ _ _ _ _ W4.drew;have r0':W4.drew.cell? ⟨w.heap.size+1,q*2,none⟩=some (.int .i64 (x:Int)):=r0;have r1':W4.drew.cell? ⟨w.heap.size+1,q*2+1,none⟩=some (.int .i64 y):=r1;have rf' : ∀j,W4.drew.frozen? ⟨w.heap.size+1,j,none⟩=false:=rf;have hB5:Below (w.heap.size+1) W1 W4.drew:=hB4.drew;have hR6:=hR5;clear r0 r1 rf q1 hR5;generalize W4.drew=W5 at *;go_wp2_with fail;go_roundw
          case rel=>exact⟨j+1,by go_num,hlj,Lib.hid (hR6.out _ _ rfl rfl),(hB5.setCell (p:=⟨w.heap.size+1,q*2,none⟩) (Nat.le_refl _) _).setCell (p:=⟨w.heap.size+1,q*2+1,none⟩) (Nat.le_refl _) _⟩
          case measure=>simp[intOf];omega
     · have hje:j=n.names.length:=by omega
       have hRx:Hid (RowN (w.heap.size+1) ms.length (fun i=>nmTo (pl ms) i (0,0) (k+1)) wr):=Lib.hid (hRj.out.same fun i _=>by rw[hsucc.out i,hje,List.take_length]);(have hI2:decide (j<n.names.length)=false:=by simp;omega);clear hje hlj;go_wp2_with fail;go_roundw
       case rel=>exact⟨k+1,by go_num,hlt,hRx,hBj⟩
       case measure=>simp[intOf];omega
  · have hke:k=ms.length:=by omega
    have hI2:decide (k<ms.length)=false:=by simp;omega
    have HX:Hid (RowN (w.heap.size+1) (pl ms).length (fun i=>nmL (pl ms) i (0,0)) wr):=Lib.hid (by
     have:=hR.out;rw[hke,←pl_len ms]at this
     exact this)
    have HLN:=Lib.hid (pl_len ms);clear hke hlt;go_wp2_with fail;go_ret;exact⟨w.heap.size+1,ms.length,by rw[HLN.out];rfl,HX.out,hBw⟩
end Go.Proofs.YtinoogmaikhpjaaGreatDoor
