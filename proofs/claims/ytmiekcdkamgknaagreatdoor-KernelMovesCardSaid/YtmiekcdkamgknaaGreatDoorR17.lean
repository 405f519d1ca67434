import Derived.Test.YtmiekcdkamgknaaGreatDoorR16
import Derived.Laws.ResultCell
import Derived.Test.YtmiekcdkamgknaaGreatDoorR14
namespace Go.Proofs.YtmiekcdkamgknaaGreatDoor
open Go.RowKit Go.Shelf
attribute [local go_sem ↓] Go.wp_at_zero Go.wp_at_succ
theorem results_ct {P:Program}{fn:Func}{p u:Tmp}{ty:TypeId}(h:fn.results = #[.cell p ty, .tmp u])(tmps:Array Value)(w:World)(g:Nat)(t:TypeId)(cs:Array Value)(fr:Nat × Nat)(d:TypeDesc)
 (hp:tmps.getD p undef = .pointer (some ⟨g,0,none⟩)) (hg:w.heap[g]? = some (.cells cs t fr))
 (hu:P.underlying ty=some d) (hd:(match d with | .struct _ | .array _ _=>true | _=>false)=true) (hi:(P.info? ty).map (·.size)=some cs.size) :
 (results fn tmps).run P w = .ok (.tuple #[.agg cs,tmps.getD u undef]) w:=by
  rw[results_cell_tmp h,hp];simp[asAddr,run_loadVar_row w g t ty cs fr d hg hu hd hi,Result.andThen]
def getL (l:List NodeL)(i:Int):NodeL:=if gotB l i then atI l i else zeroN
def GetIs (l:List NodeL)(i:Int)(e:Ending)(W W':World):Prop :=
 ∃v,e = .returned (.tuple #[nval (getL l i) v, .bool (gotB l i)])∧RdNm W'.heap.size (getL l i,v) W'∧Below W.heap.size W W'
theorem get_no {l:List NodeL}{i:Int}{w W:World}(h:gotB l i=false)(hb:Below w.heap.size w W):GetIs l i (.returned (.tuple #[.agg #[.int .i64 0, .int .i64 0, .int .i64 0, .int .i64 0, .int .i64 0, .int .i64 0, .string ⟨#[]⟩, .slice none 0 0], .bool false])) w W :=
 ⟨.slice none 0 0,by unfold getL;rw[h];rfl,by unfold getL;rw[h];exact Rd.none0 _ _ _,hb⟩
def GetNew (l:List NodeL)(i:Int)(e:Ending)(W W':World):Prop :=
 ∃v,e = .returned (.tuple #[nval (getL l i) v, .bool (gotB l i)])∧RdNm W'.heap.size (getL l i,v) W'∧Below W.heap.size W W'∧NewV W.heap.size v
theorem getn_no {l:List NodeL}{i:Int}{w W:World}(h:gotB l i=false)(hb:Below w.heap.size w W):GetNew l i (.returned (.tuple #[.agg #[.int .i64 0, .int .i64 0, .int .i64 0, .int .i64 0, .int .i64 0, .int .i64 0, .string ⟨#[]⟩, .slice none 0 0], .bool false])) w W :=
 ⟨.slice none 0 0,by unfold getL;rw[h];rfl,by unfold getL;rw[h];exact Rd.none0 _ _ _,hb,NewV.none0 _⟩
set_option maxRecDepth 100000 in
set_option maxHeartbeats 2000000 in
theorem get_new (v:Value)(ms:List NodeM)(most room i:Int)(w:World)(hv:RdM w.heap.size v ms w)(hl:ms.length≤10000)(hnl : ∀n∈pl ms,n.names.length≤10000) :
 Calls Tryz.prog 58 #[.agg #[v, .int .i64 most, .int .i64 room], .int .i64 i] w fun e w'=>GetNew (pl ms) i e w w':=by
 obtain⟨ao,cap,rfl,_,_⟩:=rdm_form hv;have HV:=Lib.hid hv;clear hv
 have hret : ∀(W:World) (cs:Array Value) (fr),W.heap[w.heap.size+1]? = some (.cells cs 78 fr)→cs.size=8→∀tmps:Array Value,tmps.getD 4 undef = .pointer (some ⟨w.heap.size+1,0,none⟩)→(results Tryz.f58 tmps).run Tryz.prog W = .ok (.tuple #[.agg cs,tmps.getD 5 undef]) W:=fun W cs fr h hs tmps ht =>
  results_ct (p:=4) (u:=5) (ty:=78) rfl tmps W (w.heap.size+1) _ cs fr _ ht h Tryz.underlying78 rfl (by rw[hs];kernel_rfl)
 cases hi:inL (pl ms) i with
 | false =>
    have HI:=Lib.hid hi;have HG:Hid (gotB (pl ms) i=false):=Lib.hid (by unfold gotB;rw[hi];rfl);clear hi;go_enter Tryz.func58,Tryz.ntmps58;go_wp2_with fail;refine fresh2 (P:=fun W=>Calls _ _ _ W _) ?_;intro W0 hb0 hP hQ hs0;refine(has_any (pl ms) ao ms.length cap most room i _ (pl_len ms).symm (by omega)).mono ?_;rintro e W1 ⟨rfl,hb1⟩;rw[HI.out];have hQ1:=(hb1.block _ (by omega)).trans hQ;have hB1:=ret_tr hb0 hb1;obtain⟨q0,q1,q2,q3,q4,q5,q6,q7⟩:=cells8 hQ1;(have rf:=fun j=>Lib.frozen_of_heap hQ1 j);clear hP hQ hb0 hb1;go_wp2_with fail;refine sets8 (P:=fun W=>bodyPost _ _ _ _ _ W) hQ1 ?_;intro W3 hb3 hg3 hs3 hR3;refine bodyPost_ret (hret _ _ _ hR3 rfl _ rfl) rfl ?_;exact getn_no HG.out (hB1.trans (hb3.mono (by omega)))
 | true =>
    obtain⟨k,rfl,hk⟩:=in_nat hi;have hat:=at_nat (pl ms) k hk;rw[pl_len]at hk;have HI:=Lib.hid hi;have HA:=Lib.hid hat;(have k0:(0:Int)≤(k:Int):=by omega);(have k1:(k:Int)<(ms.length:Int):=by omega);clear hat;go_enter Tryz.func58,Tryz.ntmps58;go_wp2_with fail;refine fresh2 (P:=fun W=>Calls _ _ _ W _) ?_;intro W0 hb0 hP hQ hs0;refine(has_any (pl ms) ao ms.length cap most room k _ (pl_len ms).symm (by omega)).mono ?_;rintro e W1 ⟨rfl,hb1⟩;rw[HI.out];have hP1:=(hb1.block _ (by omega)).trans hP;have hQ1:=(hb1.block _ (by omega)).trans hQ;have hB1:=ret_tr hb0 hb1;have hs1:=hb1.size;have p0:=(cells3 hP1).1;clear hP hQ hb0 hb1;obtain⟨b,off,n,aon,capn,rfl,hb,hn, -,hrn,c0,c1,c2,c3,c4,c5,c6,c7⟩:=node_at (HV.out.below hB1) k hk;rw[hn]at HA;have hnn:n.names.length≤10000:=hnl n (by rw[←hn];exact List.getElem_mem _);have HR1:Hid (RdNm W1.heap.size (n, .slice aon n.names.length capn) W1):=Lib.hid (Rd.mono hrn hB1.size);clear hn hrn;by_cases h0:n.kind=0
    · have hd:decide (n.kind=0)=true:=by simpa using h0
      have HG:Hid (gotB (pl ms) k=false):=Lib.hid (by unfold gotB;rw[HA.out,hd,Bool.not_true,Bool.and_false]);clear h0 hi;go_wp2_with fail;refine(free_any n _ _).mono ?_;rintro e W2 ⟨rfl,hb2⟩;rw[hd];have hQ2:=(hb2.block _ (by omega)).trans hQ1;have hB2:=ret_tr hB1 hb2;have hs2:=hb2.size;clear hP1 hQ1 hB1 hb2 c0 c1 c2 c3 c4 c5 c6 c7 p0;obtain⟨q0,q1,q2,q3,q4,q5,q6,q7⟩:=cells8 hQ2;(have rf:=fun j=>Lib.frozen_of_heap hQ2 j);go_wp2_with fail;refine sets8 (P:=fun W=>bodyPost _ _ _ _ _ W) hQ2 ?_;intro W3 hb3 hg3 hs3 hR3;refine bodyPost_ret (hret _ _ _ hR3 rfl _ rfl) rfl ?_;exact getn_no HG.out (hB2.trans (hb3.mono (by omega)))
    · have hd:decide (n.kind=0)=false:=by simpa using h0
      have HG:Hid (gotB (pl ms) k=true):=Lib.hid (by unfold gotB;rw[HA.out,hd,hi];rfl);clear h0 hi;go_wp2_with fail;refine(free_any n _ _).mono ?_;rintro e W2 ⟨rfl,hb2⟩;rw[hd];have hP2:=(hb2.block _ (by omega)).trans hP1;have hQ2:=(hb2.block _ (by omega)).trans hQ1;have hB2:=ret_tr hB1 hb2;have hs2:=hb2.size;have HR2:=Lib.hid (rdnm_keep HR1.out hb2);have p2:=(cells3 hP2).1;(have bb:b<W1.heap.size:=by omega);have d0:=(hb2.cell (p:=⟨b,off+k*8,none⟩) bb).trans c0;have d1:=(hb2.cell (p:=⟨b,off+k*8+1,none⟩) bb).trans c1;have d2:=(hb2.cell (p:=⟨b,off+k*8+2,none⟩) bb).trans c2;have d3:=(hb2.cell (p:=⟨b,off+k*8+3,none⟩) bb).trans c3;have d4:=(hb2.cell (p:=⟨b,off+k*8+4,none⟩) bb).trans c4;have d5:=(hb2.cell (p:=⟨b,off+k*8+5,none⟩) bb).trans c5;have d6:=(hb2.cell (p:=⟨b,off+k*8+6,none⟩) bb).trans c6;have d7:=(hb2.cell (p:=⟨b,off+k*8+7,none⟩) bb).trans c7;clear hP1 hQ1 hB1 hb2 c0 c1 c2 c3 c4 c5 c6 c7 p0;go_wp2_with fail;refine(own_any n _ _ HR2.out hnn).mono ?_;rintro e W3 ⟨v',rfl,hoN,hbN⟩;have hQ3:=(hbN.block _ (by omega)).trans hQ2;have hB3:=ret_tr hB2 hbN;have hs3:=hbN.size;clear hP2 hQ2 hbN p2 d0 d1 d2 d3 d4 d5 d6 d7;obtain⟨q0,q1,q2,q3,q4,q5,q6,q7⟩:=cells8 hQ3;(have rf:=fun j=>Lib.frozen_of_heap hQ3 j);obtain⟨aov,capv,rfl⟩:=own_form hoN;go_wp2_with fail;refine sets8 (P:=fun W=>bodyPost _ _ _ _ _ W) hQ3 ?_;intro W4 hb4 hg4 hs4 hR4;refine bodyPost_ret (hret _ _ _ hR4 rfl _ rfl) rfl ?_
      (have hget:getL (pl ms) k=n:=by unfold getL;rw[HG.out,HA.out];rfl);refine⟨.slice aov n.names.length capv,by rw[hget,HG.out];rfl,?_,hB3.trans (hb4.mono (by omega)),(NewV.own hoN).mono hB2.size⟩;rw[hget];exact Rd.own (ownsRow_other hoN fun g hg=>hg4 g (by omega)) (Nat.le_refl _)
theorem get_any (v:Value)(ms:List NodeM)(most room i:Int)(w:World)(hv:RdM w.heap.size v ms w)(hl:ms.length≤10000)(hnl : ∀n∈pl ms,n.names.length≤10000) :
 Calls Tryz.prog 58 #[.agg #[v, .int .i64 most, .int .i64 room], .int .i64 i] w fun e w'=>GetIs (pl ms) i e w w' :=
 (get_new v ms most room i w hv hl hnl).mono fun _ _ ⟨v',h1,h2,h3,_⟩=>⟨v',h1,h2,h3⟩
end Go.Proofs.YtmiekcdkamgknaaGreatDoor
namespace Go.Proofs.YtmiekcdkamgknaaGreatDoor
open Go.RowKit Go.Shelf
def Posted (p:Prop):Prop:=p
theorem Posted.stop {P:Program}{fn:Func}{R:Ending→World→Prop}{e:Exit}{a:Act}{w:World}(h:Posted (bodyPost P fn R e a w)):bodyPost P fn R e a w:=h
theorem sets4 {P:World→Prop}{W:World}{b:Nat}{u0 u1 u2 u3 r0 r1 r2 r3:Value}{t:TypeId}(hb:W.heap[b]? = some (.cells #[r0,r1,r2,r3] t (0,0)))
 (h : ∀W',Below b W W'→(∀g,g≠b→W'.heap[g]? = W.heap[g]?)→W'.heap.size=W.heap.size→W'.heap[b]? = some (.cells #[u0,u1,u2,u3] t (0,0))→P W'):P ((((W.setCell ⟨b,0,none⟩ u0).setCell ⟨b,1,none⟩ u1).setCell ⟨b,2,none⟩ u2).setCell ⟨b,3,none⟩ u3):=by
  refine h _ ?_ (fun g hg=> ?_) (by simp[World.setCell]) ?_
  · exact(((((Below.refl b W).setCell (p:=⟨b,0,none⟩) (Nat.le_refl _) u0).setCell (p:=⟨b,1,none⟩) (Nat.le_refl _) u1).setCell (p:=⟨b,2,none⟩) (Nat.le_refl _) u2).setCell (p:=⟨b,3,none⟩) (Nat.le_refl _) u3)
  · exact(Below.heap_setCell _ _ _ g hg).trans ((Below.heap_setCell _ _ _ g hg).trans ((Below.heap_setCell _ _ _ g hg).trans (Below.heap_setCell _ _ _ g hg)))
  · refine(heap_set (heap_set (heap_set (heap_set hb)))).trans ?_
    simp
section
variable {P:Program} {fn:Func} {Q:Ending→World→Prop} {x:Exit} {a:Act} {w:World} {A B:Obj}
theorem post_fresh1 (h : ∀W,Below w.heap.size w W→W.heap[w.heap.size]? = some A→W.heap.size=w.heap.size+1→bodyPost P fn Q x a W):bodyPost P fn Q x a (w.alloc A):=fresh1 (P:=fun W=>bodyPost P fn Q x a W) h
theorem code_fresh1 {c:Code}{K:Exit→Act→World→Prop}(h : ∀W,Below w.heap.size w W→W.heap[w.heap.size]? = some A→W.heap.size=w.heap.size+1→c.wp P K a W):c.wp P K a (w.alloc A):=fresh1 (P:=fun W=>c.wp P K a W) h
variable {b:Nat} {u0 u1 u2 u3 u4 u5 u6 u7 r0 r1 r2 r3 r4 r5 r6 r7:Value} {t:TypeId}
theorem post_sets4 (hb:w.heap[b]? = some (.cells #[r0,r1,r2,r3] t (0,0)))
 (h : ∀W',Below b w W'→(∀g,g≠b→W'.heap[g]? = w.heap[g]?)→W'.heap.size=w.heap.size→W'.heap[b]? = some (.cells #[u0,u1,u2,u3] t (0,0))→bodyPost P fn Q x a W') :
 bodyPost P fn Q x a ((((w.setCell ⟨b,0,none⟩ u0).setCell ⟨b,1,none⟩ u1).setCell ⟨b,2,none⟩ u2).setCell ⟨b,3,none⟩ u3):=sets4 (P:=fun W=>bodyPost P fn Q x a W) hb h
end
end Go.Proofs.YtmiekcdkamgknaaGreatDoor
namespace Go.Proofs.YtmiekcdkamgknaaGreatDoor
open Go.RowKit Go.Shelf
attribute [local go_sem ↓] Go.wp_at_zero Go.wp_at_succ
set_option maxRecDepth 100000 in
set_option maxHeartbeats 2000000 in
theorem rget_any (v:Value)(ms:List NodeM)(most room i:Int)(w:World)(hv:RdM w.heap.size v ms w)(hl:ms.length≤10000) :
 Calls Tryz.prog 22 #[.agg #[v, .int .i64 most, .int .i64 room], .int .i64 i] w fun e w'=>GetIs (pl ms) i e w w':=by
 obtain⟨ao,cap,rfl,_,_⟩:=rdm_form hv;have HV:=Lib.hid hv;have HL:=Lib.hid hl;clear hv
 have hret : ∀(W:World) (cs:Array Value) (fr),W.heap[w.heap.size+1]? = some (.cells cs 85 fr)→cs.size=8→∀tmps:Array Value,tmps.getD 4 undef = .pointer (some ⟨w.heap.size+1,0,none⟩)→(results Tryz.f22 tmps).run Tryz.prog W = .ok (.tuple #[.agg cs,tmps.getD 5 undef]) W:=fun W cs fr h hs tmps ht =>
  results_ct (p:=4) (u:=5) (ty:=85) rfl tmps W (w.heap.size+1) _ cs fr _ ht h Tryz.underlying85 rfl (by rw[hs];kernel_rfl)
 (have no : ∀W:World,gotB (pl ms) i=false→Below w.heap.size w W→GetIs (pl ms) i (.returned (.tuple #[.agg #[.int .i64 0, .int .i64 0, .int .i64 0, .int .i64 0, .int .i64 0, .int .i64 0, .string ⟨#[]⟩, .slice none 0 0], .bool false])) w W:=fun _ h hb=>get_no h hb);have HNO:=Lib.hid no;clear no;by_cases h1:i<0
 · have hI:decide (i<0)=true:=by simpa using h1
   have HG:Hid (gotB (pl ms) i=false):=Lib.hid (by unfold gotB inL;rw[show decide (0≤i)=false by simp;omega];rfl);clear h1;go_enter Tryz.func22,Tryz.ntmps22;go_wp2_with fail;refine fresh2 (P:=fun W=>bodyPost _ _ _ _ _ W) ?_;intro W0 hb0 hP hQ hs0;refine bodyPost_ret (hret _ _ _ hQ rfl _ rfl) rfl ?_;exact HNO.out _ HG.out hb0
 (have g1:decide (i<0)=false:=by simpa using h1);by_cases h2:(ms.length:Int)≤i
 · have hI:decide ((ms.length:Int)≤i)=true:=by simpa using h2
   have HG:Hid (gotB (pl ms) i=false):=Lib.hid (by unfold gotB inL;rw[show decide (i<(pl ms).length)=false by rw[pl_len];simpa using h2];simp);clear h1 h2;go_enter Tryz.func22,Tryz.ntmps22;go_wp2_with fail;refine fresh2 (P:=fun W=>bodyPost _ _ _ _ _ W) ?_;intro W0 hb0 hP hQ hs0;refine bodyPost_ret (hret _ _ _ hQ rfl _ rfl) rfl ?_;exact HNO.out _ HG.out hb0
 (have g2:decide ((ms.length:Int)≤i)=false:=by simpa using h2);obtain⟨k,rfl,hk⟩ : ∃k:Nat,i=k∧k<ms.length:=⟨i.toNat,by omega,by omega⟩;have hin:=nat_in (l:=pl ms) (k:=k) (by rw[pl_len];exact hk);have hat:=at_nat (pl ms) k (by rw[pl_len];exact hk);(have k0:(0:Int)≤(k:Int):=by omega);(have k1:(k:Int)<(ms.length:Int):=by omega);obtain⟨b,off,n,aon,capn,rfl,hb,hn, -,hrn,c0,c1,c2,c3,c4,c5,c6,c7⟩:=node_at HV.out k hk;rw[hn]at hat;by_cases h0:n.kind=0
 · have hd:(n.kind == 0)=true:=by simpa using h0
   have HG:Hid (gotB (pl ms) k=false):=Lib.hid (by unfold gotB;rw[hat];simp[h0]);clear h0 h1 h2 hin hat hn hrn;go_enter Tryz.func22,Tryz.ntmps22;go_wp2_with fail;refine fresh2 (P:=fun W=>bodyPost _ _ _ _ _ W) ?_;intro W0 hb0 hP hQ hs0;refine bodyPost_ret (hret _ _ _ hQ rfl _ rfl) rfl ?_;exact HNO.out _ HG.out hb0
 · have hd:(n.kind == 0)=false:=by simpa using h0
   have HG:Hid (gotB (pl ms) k=true):=Lib.hid (by unfold gotB;rw[hat,hin];simp[h0]);have HGe:Hid (getL (pl ms) k=n):=Lib.hid (by unfold getL;rw[HG.out,hat];rfl);have HR:=Lib.hid hrn;clear h0 h1 h2 hin hat hn hrn;go_enter Tryz.func22,Tryz.ntmps22;go_wp2_with fail;refine fresh2 (P:=fun W=>bodyPost _ _ _ _ _ W) ?_;intro W0 hb0 hP hQ hs0;refine bodyPost_ret (hret _ _ _ hQ rfl _ rfl) rfl ?_;exact⟨.slice aon n.names.length capn,by rw[HGe.out,HG.out];rfl,by rw[HGe.out];exact rd_keep HR.out hb0,hb0⟩
def NamesIs (l:List NodeL)(i:Int)(e:Ending)(W W':World):Prop:=e = .returned (.tuple #[.int .i64 ((nmL l i (0, -1)).1:Int), .int .i64 (nmL l i (0, -1)).2])∧Below W.heap.size W W'
set_option maxRecDepth 100000 in
set_option maxHeartbeats 2000000 in
theorem names_any (v:Value)(ms:List NodeM)(most room i:Int)(w:World)(hv:RdM w.heap.size v ms w)(hsm:Small (pl ms)) :
 Calls Tryz.prog 83 #[.agg #[v, .int .i64 most, .int .i64 room], .int .i64 i] w fun e w'=>NamesIs (pl ms) i e w w':=by
 (have hl:ms.length≤110:=by have:=hsm.1;rwa [pl_len]at this);obtain⟨ao,cap,rfl,_,_⟩:=rdm_form hv;have hb0:Below w.heap.size w (w.alloc (.cells #[.slice ao ms.length cap, .int .i64 most, .int .i64 room] 48)):=(Below.refl _ w).alloc (Nat.le_refl _) _;have HV:=Lib.hid (hv.below hb0);have HS:=Lib.hid hsm;clear hv hsm;go_enter Tryz.func83,Tryz.ntmps83;go_wp2_with fail;go_loop [6,7,8] (fun c d i'=>∃k:Nat,i' = .int .i64 k∧k≤ms.length∧c = .int .i64 ((nmTo (pl ms) i (0, -1) k).1:Int)∧d = .int .i64 (nmTo (pl ms) i (0, -1) k).2) (fun _ _ i'=>ms.length-(intOf i').toNat)
 case atStart=>exact⟨0,rfl,Nat.zero_le _,rfl,rfl⟩
 case round =>
  obtain⟨k,rfl,hk,rfl,rfl⟩:=hrel;by_cases hlt:k<ms.length
  · obtain⟨b,off,n,aon,capn,rfl,hb,hn, -,hrn,c0,c1,c2,c3,c4,c5,c6,c7⟩:=node_at HV.out k hlt
    have hsucc:Hid (nmTo (pl ms) i (0, -1) (k+1)=foldN i k (nmTo (pl ms) i (0, -1) k) n.names):=Lib.hid (by
     show foldN i k _ ((pl ms).getD k zeroN).names=_;rw[List.getD_eq_getElem?_getD,List.getElem?_eq_getElem (by rw[pl_len];exact hlt),hn]
     rfl)
    have hle:=nm_le HS.out i (0, -1) k;have hnl:n.names.length≤130:=(HS.out.2 n (by rw[←hn];exact List.getElem_mem _)).2;have HR:=Lib.hid hrn;clear hn hrn;generalize nmTo (pl ms) i (0, -1) k=s at *;(have hle2:s.1≤15000:=by simp at hle;omega);clear hle;go_wp2_with fail;go_loop [6,7,9] (fun c d j'=>∃j:Nat,j' = .int .i64 j∧j≤n.names.length∧c = .int .i64 ((foldN i k s (n.names.take j)).1:Int)∧d = .int .i64 (foldN i k s (n.names.take j)).2) (fun _ _ j'=>n.names.length-(intOf j').toNat)
    case atStart=>exact⟨0,rfl,Nat.zero_le _,rfl,rfl⟩
    case round =>
     obtain⟨j,rfl,hj,rfl,rfl⟩:=hrel;by_cases hlj:j<n.names.length
     · obtain⟨b2,off2,cap2,e,_,_,_,_,hc⟩:=HR.out.at (by omega)
       injection e with e1 _ e2;subst e1;subst e2;have d1:World.cell? _ ⟨b2,off2+j*2+1,none⟩=_:=hc (j*2+1) _ (ents_at1 n.names j hlj);have hst:=foldN_succ i k s n.names j hlj;have hfl:=fold_le i k (n.names.take j) s;rw[List.length_take]at hfl;generalize n.names[j]=f at *;generalize foldN i k s (n.names.take j)=t at *;obtain⟨fx,fz⟩:=f;by_cases hz:fz=i
       · have hI:(fz == i)=true:=by simpa using hz
         (have hst2:foldN i k s (n.names.take (j+1))=(t.1+1,(k:Int)):=by rw[hst];unfold stepN;rw[if_pos hz]);have HST:=Lib.hid hst2;(have ht1:t.1≤16000:=by omega);clear hz hst hst2 hc hfl;go_wp2_with fail;go_round
         case rel=>exact⟨j+1,by go_num,hlj,by rw[HST.out];go_num,by rw[HST.out]⟩
         case measure=>simp[intOf];omega
       · have hI:(fz == i)=false:=by simpa using hz
         (have hst2:foldN i k s (n.names.take (j+1))=t:=by rw[hst];unfold stepN;rw[if_neg hz]);have HST:=Lib.hid hst2;clear hz hst hst2 hc hfl;go_wp2_with fail;go_round
         case rel=>exact⟨j+1,by go_num,hlj,by rw[HST.out],by rw[HST.out]⟩
         case measure=>simp[intOf];omega
     · have hje:j=n.names.length:=by omega
       have HT:Hid (foldN i k s (n.names.take j)=nmTo (pl ms) i (0, -1) (k+1)):=Lib.hid (by rw[hje,List.take_length,hsucc.out]);(have hI2:decide (j<n.names.length)=false:=by simp;omega);clear hje hlj;go_wp2_with fail;go_round
       case rel=>exact⟨k+1,by go_num,hlt,by rw[HT.out],by rw[HT.out]⟩
       case measure=>simp[intOf];omega
  · have hke:k=ms.length:=by omega
    have HT:Hid (nmTo (pl ms) i (0, -1) k=nmL (pl ms) i (0, -1)):=Lib.hid (by rw[hke];unfold nmL;rw[pl_len]);(have hI2:decide (k<ms.length)=false:=by simp;omega);clear hke hlt;rw[HT.out];go_wp2_with fail;go_ret2;exact⟨rfl,hb0⟩
end Go.Proofs.YtmiekcdkamgknaaGreatDoor
