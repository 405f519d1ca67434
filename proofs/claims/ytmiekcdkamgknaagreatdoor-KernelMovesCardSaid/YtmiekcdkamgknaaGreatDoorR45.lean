import Derived.Test.YtmiekcdkamgknaaGreatDoorProg
import Derived.Deep.RegionHeld3
import Derived.Test.YtmiekcdkamgknaaGreatDoorR24
import Derived.Test.YtmiekcdkamgknaaGreatDoorR44
import Derived.Deep.DeepCutAuto
import Derived.Test.YtmiekcdkamgknaaGreatDoorR38
import Derived.Test.YtmiekcdkamgknaaGreatDoorR26
namespace Go.Proofs.YtmiekcdkamgknaaGreatDoor
section
variable {P:Program} {md:Region.Mode} {ops:Array Oper} {Q:Exit→Act→World→Prop} {T F:World→Prop} {s:Nat}
def UntilD (T F:World→Prop)(s:Nat)(listed:Array Bool)(w:World):Prop:=T w∧(listed.getD s true=false→F w)
def anyD (P:Program)(md:Region.Mode)(ops:Array Oper)(Q:Exit→Act→World→Prop)(T F:World→Prop)(s:Nat):Nat→Array Bool→Act→World→Prop
 | 0,listed,a,w=>Region.ready md ops listed = []∧Q .normal a w
 | n+1,listed,a,w=>(Region.ready md ops listed = []→Q .normal a w) ∧
    ∀i,i∈Region.ready md ops listed→wpOp P ops Q i (fun a' w'=>UntilD T F s (listed.setIfInBounds i true) w'∧anyD P md ops Q T F s n (listed.setIfInBounds i true) a' w') a w
theorem anyD.any : ∀ {n:Nat} {listed:Array Bool} {a:Act} {w:World},anyD P md ops Q T F s n listed a w→wpAny P md ops Q n listed a w
 | 0,_,_,_,h=>h
 | _+1,_,_,_,h=>⟨h.1,fun i hi=>wpOp_mono (fun _ _ h'=>h'.2.any) (h.2 i hi)⟩
theorem getD_still {listed:Array Bool}{i:Nat}(h:listed.getD s true=true):(listed.setIfInBounds i true).getD s true=true:=by
 by_cases e:i=s
 · subst e
   rcases Nat.lt_or_ge i listed.size with h1 | h1
   · simp[h1]
   · simp
 · rw[getD_set_ne true e];exact h
theorem anyD.late : ∀ {n:Nat} {listed:Array Bool} {a:Act} {w:World},listed.getD s true=true→wpAnyH P md ops Q T n listed a w→anyD P md ops Q T F s n listed a w
 | 0,_,_,_,_,h=>h
 | _+1,_,_,_,hs,h=>⟨h.1,fun i hi=>wpOp_mono (fun _ _ h'=>⟨⟨h'.1,fun e=>absurd (getD_still hs) (by rw[e];decide)⟩,anyD.late (getD_still hs) h'.2⟩) (h.2 i hi)⟩
def waitsB (md:Region.Mode)(ops:Array Oper)(s i:Nat):Bool:=match ops[s]? with | some o=>o.after.any fun e=>Region.binds md e && decide (e.on=i) | none=>false
theorem anyD.core {i:Nat}{oi:Oper}{v:Value}(U:World→Prop)(R:Array Bool→Prop)(hi:ops[i]? = some oi)(hsel : ∀(j:Nat) (o:Oper) cs b,ops[j]? = some o→o.op≠ .select cs b)
 (hQ : ∀c a w,Q (.panic c) (a.put oi.dst v) w→Q (.panic c) a w) (his:i≠s) (hU : ∀listed w,R listed→UntilD T F s listed w→U w)
 (hR : ∀(listed:Array Bool) (j:Nat),R listed→i∈Region.ready md ops listed→j∈Region.ready md ops listed→j≠i→R (listed.setIfInBounds j true)) :
 ∀(n:Nat) (listed:Array Bool) (a:Act) (w:World),
  (∀j oj,ops[j]? = some oj→j≠i→listed.getD j true=false→(∀e∈oj.after,Region.binds md e=true→e.on≠i)→oi.apart ops oj=true) →
  i∈Region.ready md ops listed→YieldsIf P ops U oi v a→R listed→UntilD T F s listed w →
  anyD P md ops Q T F s n (listed.setIfInBounds i true) (a.put oi.dst v) w→anyD P md ops Q T F s (n+1) listed a w:=by
 (have hiw : ∀(listed:Array Bool) (w:World),UntilD T F s listed w→UntilD T F s (listed.setIfInBounds i true) w:=fun listed w h=>⟨h.1,fun e=>h.2 (by rw[getD_set_ne true his]at e;exact e)⟩);intro n
 induction n with
 | zero =>
    intro listed a w _ hr hy hl hS H;refine⟨fun h=>(by rw[h]at hr;cases hr),fun j hj=> ?_⟩;by_cases e:j=i
    · subst e;exact hy.wpOp hi (hU _ _ hl hS) ⟨hiw _ _ hS,H⟩
    · have h1:=ready_mono hj e
      rw[H.1]at h1
      cases h1
 | succ n ih =>
    intro listed a w hfree hr hy hl hS H;refine⟨fun h=>(by rw[h]at hr;cases hr),fun j hj=> ?_⟩;by_cases e:j=i
    · subst e;exact hy.wpOp hi (hU _ _ hl hS) ⟨hiw _ _ hS,H⟩
    · have h1:=H.2 j (ready_mono hj e)
      have hl':=hR listed j hl hr hj e;have hr':=ready_mono hr (Ne.symm e);obtain⟨hju,oj,hoj,hall⟩:=mem_ready.1 hj
      have hno : ∀d∈oj.after,Region.binds md d=true→d.on≠i:=by
       intro d hd hb heq;have g1:=hall d hd hb;have g0:=(mem_ready.1 hr).1;rw[heq]at g1;rcases Nat.lt_or_ge i listed.size with g | g
       · rw[Array.getD_eq_getD_getElem?,Array.getElem?_eq_getElem g]at g0 g1
         rw[show listed[i]=false from g0]at g1
         cases g1
       · rw[Array.getD_eq_getD_getElem?,Array.getElem?_eq_none g]at g1
         cases g1
      have h2:=wpOp_putIf hoj (hfree j oj hoj e hju hno) (fun cs b=>hsel i oi cs b hi) (fun cs b=>hsel j oj cs b hoj) hQ hy h1;refine wpOp_mono (fun a' w' h3=> ?_) h2;have h4:UntilD T F s (listed.setIfInBounds j true) w':=⟨h3.2.1.1,fun ee=>h3.2.1.2 (by rw[Array.setIfInBounds_comm _ _ (Ne.symm e),getD_set_ne true his];exact ee)⟩;refine⟨h4,ih (listed.setIfInBounds j true) a' w' (fun k ok hk hki hun hn=>hfree k ok hk hki ?_ hn) hr' h3.1 hl' h4 ?_⟩
      · by_cases ejk:j=k
        · subst ejk;exact hju
        · rw[getD_set_ne true ejk]at hun;exact hun
      · rw[Array.setIfInBounds_comm _ _ e]
        exact h3.2.2
section
variable {i:Nat} {oi:Oper} {v:Value} {n:Nat} {listed:Array Bool} {a:Act} {w:World}
theorem anyD.take (hi:ops[i]? = some oi)(hs:Region.noSelect ops=true)(hf:Region.free md ops listed i=true)(hr:(Region.ready md ops listed).contains i=true)
 (hQ : ∀c a w,Q (.panic c) (a.put oi.dst v) w→Q (.panic c) a w) (his:(i == s)=false) (hy:YieldsIf P ops T oi v a) (hS:UntilD T F s listed w)
 (h:anyD P md ops Q T F s n (listed.setIfInBounds i true) (a.put oi.dst v) w):anyD P md ops Q T F s (n+1) listed a w :=
  anyD.core T (fun _=>True) hi (Region.noSelect_spec hs) hQ (by simpa using his) (fun _ _ _ h=>h.1) (fun _ _ _ _ _ _=>trivial) n listed a w (Region.free_spec hi hf) (by simpa using hr) hy trivial hS h
theorem anyD.takeF (hi:ops[i]? = some oi)(hs:Region.noSelect ops=true)(hf:Region.free md ops listed i=true)(hr:(Region.ready md ops listed).contains i=true)
 (hQ : ∀c a w,Q (.panic c) (a.put oi.dst v) w→Q (.panic c) a w) (his:(i == s)=false) (hw:waitsB md ops s i=true) (hls:listed.getD s true=false) (hy:YieldsIf P ops (fun w=>T w∧F w) oi v a) (hS:UntilD T F s listed w)
 (h:anyD P md ops Q T F s n (listed.setIfInBounds i true) (a.put oi.dst v) w):anyD P md ops Q T F s (n+1) listed a w:=by
  refine anyD.core (fun w=>T w∧F w) (fun l=>l.getD s true=false) hi (Region.noSelect_spec hs) hQ (by simpa using his) (fun _ _ hl h=>⟨h.1,h.2 hl⟩) (fun l j hl hri hrj hne=> ?_) n listed a w (Region.free_spec hi hf) (by simpa using hr) hy hls hS h;rw[getD_set_ne true]
  · exact hl
  · rintro rfl
    obtain⟨_,o,ho,hall⟩:=mem_ready.1 hrj;unfold waitsB at hw;rw[ho]at hw;obtain⟨d,hd,hb⟩:=Array.any_eq_true'.1 hw;rw[Bool.and_eq_true,decide_eq_true_iff]at hb;have g1:=hall d hd hb.1;rw[hb.2]at g1;have g0:=(mem_ready.1 hri).1;rcases Nat.lt_or_ge i l.size with g | g
    · rw[Array.getD_eq_getD_getElem?,Array.getElem?_eq_getElem g]at g0 g1
      rw[show l[i]=false from g0]at g1
      cases g1
    · rw[Array.getD_eq_getD_getElem?,Array.getElem?_eq_none g]at g1
      cases g1
theorem anyD.one (hr:Region.ready md ops listed = [i])(ho:ops[i]? = some oi)(hsl:(listed.setIfInBounds i true).getD s true=true)
 (h : ∀K:Act→World→Prop,Shut (∀a' w',T w'→(T w'→wpAnyH P md ops Q T n (listed.setIfInBounds i true) a' w')→K a' w')→if Region.wanted oi (yielded ops a.tmps)=true then oi.wp P a w K Q else K (a.put oi.dst undef) w):anyD P md ops Q T F s (n+1) listed a w:=by
  refine⟨fun h0=>(by rw[hr]at h0;cases h0),fun j hj=> ?_⟩;rw[hr,List.mem_singleton]at hj;subst hj;have h1:=h (fun a' w'=>UntilD T F s (listed.setIfInBounds j true) w'∧anyD P md ops Q T F s n (listed.setIfInBounds j true) a' w') (fun a' w' ht h2=>⟨⟨ht,fun e=>absurd hsl (by rw[e];decide)⟩,anyD.late hsl (h2 ht)⟩);unfold wpOp;simp only[ho];split
  · rename_i hw
    rw[if_pos hw]at h1;exact .inl h1
  · rename_i hw
    rw[if_neg hw]at h1;exact h1
theorem wp_region_D {id:Nat}(hm:P.follows .mixedOrders=true)(hS:UntilD T F s (Array.replicate ops.size false) w.drew)
 (h:UntilD T F s (Array.replicate ops.size false) w.drew→anyD P .any ops Q T F s ops.size (Array.replicate ops.size false) a w.drew):(Code.region id ops true).wp P Q a w :=
  wp_region_any hm (anyD.any (h hS))
end
end
end Go.Proofs.YtmiekcdkamgknaaGreatDoor
namespace Go.Proofs.YtmiekcdkamgknaaGreatDoor
open Go.RowKit Go.Shelf
attribute [local go_sem ↓] Go.wp_at_zero Go.wp_at_succ
set_option maxRecDepth 100000 in
set_option maxHeartbeats 4000000 in
theorem phold_c (X:Nat→Prop)(l:List NodeL)(most room i:Int)(ao:Option Addr)(co:Nat)(v3 v4 v5 v6 v7 v8 v9 v10 v11 v12 v13 v14 v15:Value)(bw:Nat)(w:World)(hX:Old X w)(hq:X bw)(hW:w.heap[bw]? = some (.cells #[.slice ao l.length co, .int .i64 most, .int .i64 room,v3,v4,v5,v6,v7,v8,v9,v10,v11,v12,v13,v14,v15] 61 (0,0)))(hD:DiskX l (.slice ao l.length co) X w)(hn:Ord l)(hl:l.length≤10000)(hnl : ∀n∈l,n.names.length≤10000)(hw:IntKind.i64.wrap ((nodeL l i).opn+1)=(nodeL l i).opn+1) :
 Calls Tryz.prog 94 #[.pointer (some ⟨bw,0,none⟩), .int .i64 i] w fun e w'=>∃ao' co',e = .returned (.tuple #[])∧DiskX (heldL l i) (.slice ao' (heldL l i).length co') X w'∧BelB bw w w'∧w'.heap[bw]? = some (.cells #[.slice ao' (heldL l i).length co', .int .i64 most, .int .i64 room,v3,v4,v5,v6,v7,v8,v9,v10,v11,v12,v13,v14,v15] 61 (0,0)):=by
 have S0:=zd (Sw.start (G:= [DiskX l (.slice ao l.length co)]) hX hq hW (th1 (DiskX.firm _ _) hD));have HN:=zd hn;have HL:=zd hl;have HNL:=zd hnl;have HWR:=zd hw;clear hX hq hW hD hn hl hnl hw;go_enter Tryz.func94,Tryz.ntmps94;have h_wd:=w_disk (S0.out.at 0 rfl);go_wp2_with (first | (refine zm h_wd Tryz.underlying24 ?_));refine(get_g _ l most room i _ w S0.out.oldX (S0.out.g 0 rfl) HL.out HNL.out).mono ?_;rintro e W1 ⟨aon,cpn,rfl,hn,hb⟩;clear h_wd;have S1:=zd ((S0.out.call hb).more (NodeTh.firm _ _) hn);obtain⟨n,hnn⟩ : ∃n,n=nodeL l i:=⟨_,rfl⟩;obtain⟨g,hg⟩ : ∃g,g=gotB l i:=⟨_,rfl⟩;rw[←hnn]at S1 HWR ⊢;rw[←hg];have HNN:=zd hnn.symm;clear hnn hg;clear hb hn;go_upto_region 1 with(first | (refine wpList_fresh1 ?_;intro W2 hb hn hs;have S2:=zd (S1.out.new1 hb hn);have h_n:=S2.out.at 1 rfl;clear hb hn hs) | (refine zs h_n ?_;intro W3 hb hg hs hn;have S3:=zd (S2.out.set 1 rfl hb hg hs hn);clear hb hg hs hn));clear h_n;obtain⟨bn,hbn⟩ : ∃bn,bn=W1.heap.size:=⟨_,rfl⟩;rw[←hbn]at S3 ⊢;clear hbn;have w1:=HWR.out;obtain⟨-, -, -, -,n4, -, -, -⟩:=cells8 (S3.out.at 1 rfl);(have fn:=fun j=>Lib.frozen_of_heap (S3.out.at 1 rfl) j);go_upto_region 2 with(fail);clear n4 fn;clear w1;refine code_set1 (S3.out.at 1 rfl) ?_;intro W4 hb hg hs hn;have S4:=zd (S3.out.set 1 rfl hb hg hs hn);clear hb hg hs hn;refine wp_region_D (T:=(fun W=>True)) (F:=(fun W=>W.heap[bw]? = some (.cells #[.slice ao l.length co, .int .i64 most, .int .i64 room,v3,v4,v5,v6,v7,v8,v9,v10,v11,v12,v13,v14,v15] 61 (0,0))∧W.heap[bn]? = some (.cells #[.int .i64 n.kind, .int .i64 n.mode, .int .i64 n.owner, .int .i64 n.links, .int .i64 (n.opn+1), .int .i64 n.up, .string (bs n.data), .slice aon n.names.length cpn] 78 (0,0))∧W.rangeAt bw 0 [.slice ao l.length co, .int .i64 most, .int .i64 room]∧True)) (s:=8) (by kernel_rfl) ⟨trivial,fun _=>⟨(S4.out.at 0 rfl),(S4.out.at 1 rfl),w_disk (S4.out.at 0 rfl),trivial⟩⟩ (fun _=> ?_)
 have S5:=zd (S4.out.call (Below.refl W4.heap.size W4).drew);generalize W4.drew=W5 at *;have hTF:(fun W=>True) W5∧(fun W=>W.heap[bw]? = some (.cells #[.slice ao l.length co, .int .i64 most, .int .i64 room,v3,v4,v5,v6,v7,v8,v9,v10,v11,v12,v13,v14,v15] 61 (0,0))∧W.heap[bn]? = some (.cells #[.int .i64 n.kind, .int .i64 n.mode, .int .i64 n.owner, .int .i64 n.links, .int .i64 (n.opn+1), .int .i64 n.up, .string (bs n.data), .slice aon n.names.length cpn] 78 (0,0))∧W.rangeAt bw 0 [.slice ao l.length co, .int .i64 most, .int .i64 room]∧True) W5:=⟨trivial,⟨(S5.out.at 0 rfl),(S5.out.at 1 rfl),w_disk (S5.out.at 0 rfl),trivial⟩⟩;refine anyD.take (i:=0) (v:= ?v1) rfl (by kernel_rfl) (by kernel_rfl) (by kernel_rfl) (fun _ _ _ h=>h) (by rfl) (Or.inl ⟨by rfl,?hy1⟩) ⟨hTF.1,fun _=>hTF.2⟩ ?rest1
 case hy1=>(intro w hSw;(try dsimp only at hSw);(try go_split_ands);go_simp;first | done | with_reducible rfl)
 (try simp only[pt,Act.put]);refine anyD.take (i:=1) (v:= ?v2) rfl (by kernel_rfl) (by kernel_rfl) (by kernel_rfl) (fun _ _ _ h=>h) (by rfl) (Or.inl ⟨by rfl,?hy2⟩) ⟨hTF.1,fun _=>hTF.2⟩ ?rest2
 case hy2=>(intro w hSw;(try dsimp only at hSw);(try go_split_ands);go_simp;first | done | with_reducible rfl)
 (try simp only[pt,Act.put]);refine anyD.take (i:=2) (v:= ?v3) rfl (by kernel_rfl) (by kernel_rfl) (by kernel_rfl) (fun _ _ _ h=>h) (by rfl) (Or.inl ⟨by rfl,?hy3⟩) ⟨hTF.1,fun _=>hTF.2⟩ ?rest3
 case hy3=>(intro w hSw;(try dsimp only at hSw);(try go_split_ands);go_simp;first | done | with_reducible rfl)
 (try simp only[pt,Act.put]);refine anyD.take (i:=3) (v:= ?v4) rfl (by kernel_rfl) (by kernel_rfl) (by kernel_rfl) (fun _ _ _ h=>h) (by rfl) (Or.inl ⟨by rfl,?hy4⟩) ⟨hTF.1,fun _=>hTF.2⟩ ?rest4
 case hy4=>(intro w hSw;(try dsimp only at hSw);(try go_split_ands);go_simp;first | done | with_reducible rfl)
 (try simp only[pt,Act.put]);refine anyD.take (i:=4) (v:= ?v5) rfl (by kernel_rfl) (by kernel_rfl) (by kernel_rfl) (fun _ _ _ h=>h) (by rfl) (Or.inl ⟨by rfl,?hy5⟩) ⟨hTF.1,fun _=>hTF.2⟩ ?rest5
 case hy5=>(intro w hSw;(try dsimp only at hSw);(try go_split_ands);go_simp;first | done | with_reducible rfl)
 (try simp only[pt,Act.put]);refine anyD.takeF (i:=5) rfl (by kernel_rfl) (by kernel_rfl) (by kernel_rfl) (fun _ _ _ h=>h) (by rfl) (by kernel_rfl) (by rfl) (yieldsIf_load_mid (by rfl) 24 _ rfl _ 0 rfl _ _ (fun _ h=>h.2.2.2.1) Tryz.underlying24 rfl (by kernel_rfl)) ⟨hTF.1,fun _=>hTF.2⟩ ?_;(try simp only[pt,Act.put]);refine anyD.take (i:=6) (v:= ?v6) rfl (by kernel_rfl) (by kernel_rfl) (by kernel_rfl) (fun _ _ _ h=>h) (by rfl) (Or.inl ⟨by rfl,?hy6⟩) ⟨hTF.1,fun _=>hTF.2⟩ ?rest6
 case hy6=>(intro w hSw;(try dsimp only at hSw);(try go_split_ands);go_simp;first | done | with_reducible rfl)
 (try simp only[pt,Act.put]);refine anyD.takeF (i:=7) rfl (by kernel_rfl) (by kernel_rfl) (by kernel_rfl) (fun _ _ _ h=>h) (by rfl) (by kernel_rfl) (by rfl) (yieldsIf_load_row (by rfl) 78 _ rfl _ rfl 78 _ (0,0) _ (fun _ h=>h.2.2.1) Tryz.underlying78 rfl (by kernel_rfl)) ⟨hTF.1,fun _=>hTF.2⟩ ?_;(try simp only[pt,Act.put]);refine anyD.one (i:=8) (by kernel_rfl) rfl (by rfl) (fun K hK=> ?_);go_simp;refine(set_g _ l most room i (opnN n 1) _ (.slice aon n.names.length cpn) W5 S5.out.oldX (S5.out.g 0 rfl) HL.out ((S5.out.g 1 rfl:NodeX _ n _ _).same (m:=opnN n 1) rfl) (by show n.names.length≤_;rw[←HNN.out];exact(HN.out.node i).1)).mono ?_;rintro e W6 ⟨ao2,co2,rfl,hg2,hb⟩;have S6:=zd ((S5.out.call hb).more (DiskX.firm _ _) hg2);clear hb hTF hg2;go_wp2_with fail;refine hK.out _ _ trivial (fun hHeld=> ?_);clear hK K;(try simp only[pt,Act.put]);refine zY 9 ?_;refine zY 10 ?_;refine zY 11 ?_;(refine zO 12 fun K hK=> ?_);rw[if_pos (by rfl)];refine wp_store_w3 24 _ _ rfl bw rfl rfl (S6.out.at 0 rfl) (by kernel_rfl) rfl rfl rfl ?_;intro W7 hb hg hs hn;have S7:=zd (S6.out.set 0 rfl hb hg hs hn);clear hb hg hs hn hHeld;refine hK.out _ _ trivial (fun hHeld=> ?_);clear hK K;(try simp only[pt,Act.put]);refine wpAnyH_done (by kernel_rfl) ?_ _;go_wp2_with fail;go_end0;exact⟨ao2,co2,rfl,by unfold heldL;rw[HNN.out];exact S7.out.gX 2 rfl,S7.out.bel,by unfold heldL;rw[HNN.out];exact S7.out.at 0 rfl⟩
set_option maxRecDepth 100000 in
set_option maxHeartbeats 4000000 in
theorem prelease_c (X:Nat→Prop)(l:List NodeL)(most room i:Int)(ao:Option Addr)(co:Nat)(v3 v4 v5 v6 v7 v8 v9 v10 v11 v12 v13 v14 v15:Value)(bw:Nat)(w:World)(hX:Old X w)(hq:X bw)(hW:w.heap[bw]? = some (.cells #[.slice ao l.length co, .int .i64 most, .int .i64 room,v3,v4,v5,v6,v7,v8,v9,v10,v11,v12,v13,v14,v15] 61 (0,0)))(hD:DiskX l (.slice ao l.length co) X w)(hn:Ord l)(hl:l.length≤10000)(hnl : ∀n∈l,n.names.length≤10000)(hw:IntKind.i64.wrap ((nodeL l i).opn+(-1))=(nodeL l i).opn+(-1)) :
 Calls Tryz.prog 98 #[.pointer (some ⟨bw,0,none⟩), .int .i64 i] w fun e w'=>∃ao' co',e = .returned (.tuple #[])∧DiskX (openedL l i (-1)) (.slice ao' (openedL l i (-1)).length co') X w'∧BelB bw w w'∧w'.heap[bw]? = some (.cells #[.slice ao' (openedL l i (-1)).length co', .int .i64 most, .int .i64 room,v3,v4,v5,v6,v7,v8,v9,v10,v11,v12,v13,v14,v15] 61 (0,0)):=by
 have S0:=zd (Sw.start (G:= [DiskX l (.slice ao l.length co)]) hX hq hW (th1 (DiskX.firm _ _) hD));have HN:=zd hn;have HL:=zd hl;have HNL:=zd hnl;have HWR:=zd hw;clear hX hq hW hD hn hl hnl hw;go_enter Tryz.func98,Tryz.ntmps98;have h_wd:=w_disk (S0.out.at 0 rfl);go_wp2_with (first | (refine zm h_wd Tryz.underlying24 ?_));refine(get_g _ l most room i _ w S0.out.oldX (S0.out.g 0 rfl) HL.out HNL.out).mono ?_;rintro e W1 ⟨aon,cpn,rfl,hn,hb⟩;clear h_wd;have S1:=zd ((S0.out.call hb).more (NodeTh.firm _ _) hn);obtain⟨n,hnn⟩ : ∃n,n=nodeL l i:=⟨_,rfl⟩;obtain⟨g,hg⟩ : ∃g,g=gotB l i:=⟨_,rfl⟩;rw[←hnn]at S1 HWR ⊢;rw[←hg];have HNN:=zd hnn.symm;clear hnn hg;clear hb hn;go_upto_region 1 with(first | (refine wpList_fresh1 ?_;intro W2 hb hn hs;have S2:=zd (S1.out.new1 hb hn);have h_n:=S2.out.at 1 rfl;clear hb hn hs) | (refine zs h_n ?_;intro W3 hb hg hs hn;have S3:=zd (S2.out.set 1 rfl hb hg hs hn);clear hb hg hs hn));clear h_n;obtain⟨bn,hbn⟩ : ∃bn,bn=W1.heap.size:=⟨_,rfl⟩;rw[←hbn]at S3 ⊢;clear hbn;(have w1:IntKind.i64.wrap (n.opn-1)=n.opn + -1:=by rw[Int.sub_eq_add_neg];exact HWR.out);obtain⟨-, -, -, -,n4, -, -, -⟩:=cells8 (S3.out.at 1 rfl);(have fn:=fun j=>Lib.frozen_of_heap (S3.out.at 1 rfl) j);go_upto_region 2 with(fail);clear n4 fn;clear w1;refine code_set1 (S3.out.at 1 rfl) ?_;intro W4 hb hg hs hn;have S4:=zd (S3.out.set 1 rfl hb hg hs hn);clear hb hg hs hn;refine wp_region_D (T:=(fun W=>True)) (F:=(fun W=>W.heap[bw]? = some (.cells #[.slice ao l.length co, .int .i64 most, .int .i64 room,v3,v4,v5,v6,v7,v8,v9,v10,v11,v12,v13,v14,v15] 61 (0,0))∧W.heap[bn]? = some (.cells #[.int .i64 n.kind, .int .i64 n.mode, .int .i64 n.owner, .int .i64 n.links, .int .i64 (n.opn+(-1)), .int .i64 n.up, .string (bs n.data), .slice aon n.names.length cpn] 78 (0,0))∧W.rangeAt bw 0 [.slice ao l.length co, .int .i64 most, .int .i64 room]∧True)) (s:=8) (by kernel_rfl) ⟨trivial,fun _=>⟨(S4.out.at 0 rfl),(S4.out.at 1 rfl),w_disk (S4.out.at 0 rfl),trivial⟩⟩ (fun _=> ?_)
 have S5:=zd (S4.out.call (Below.refl W4.heap.size W4).drew);generalize W4.drew=W5 at *;have hTF:(fun W=>True) W5∧(fun W=>W.heap[bw]? = some (.cells #[.slice ao l.length co, .int .i64 most, .int .i64 room,v3,v4,v5,v6,v7,v8,v9,v10,v11,v12,v13,v14,v15] 61 (0,0))∧W.heap[bn]? = some (.cells #[.int .i64 n.kind, .int .i64 n.mode, .int .i64 n.owner, .int .i64 n.links, .int .i64 (n.opn+(-1)), .int .i64 n.up, .string (bs n.data), .slice aon n.names.length cpn] 78 (0,0))∧W.rangeAt bw 0 [.slice ao l.length co, .int .i64 most, .int .i64 room]∧True) W5:=⟨trivial,⟨(S5.out.at 0 rfl),(S5.out.at 1 rfl),w_disk (S5.out.at 0 rfl),trivial⟩⟩;refine anyD.take (i:=0) (v:= ?v10) rfl (by kernel_rfl) (by kernel_rfl) (by kernel_rfl) (fun _ _ _ h=>h) (by rfl) (Or.inl ⟨by rfl,?hy10⟩) ⟨hTF.1,fun _=>hTF.2⟩ ?rest10
 case hy10=>(intro w hSw;(try dsimp only at hSw);(try go_split_ands);go_simp;first | done | with_reducible rfl)
 (try simp only[pt,Act.put]);refine anyD.take (i:=1) (v:= ?v11) rfl (by kernel_rfl) (by kernel_rfl) (by kernel_rfl) (fun _ _ _ h=>h) (by rfl) (Or.inl ⟨by rfl,?hy11⟩) ⟨hTF.1,fun _=>hTF.2⟩ ?rest11
 case hy11=>(intro w hSw;(try dsimp only at hSw);(try go_split_ands);go_simp;first | done | with_reducible rfl)
 (try simp only[pt,Act.put]);refine anyD.take (i:=2) (v:= ?v12) rfl (by kernel_rfl) (by kernel_rfl) (by kernel_rfl) (fun _ _ _ h=>h) (by rfl) (Or.inl ⟨by rfl,?hy12⟩) ⟨hTF.1,fun _=>hTF.2⟩ ?rest12
 case hy12=>(intro w hSw;(try dsimp only at hSw);(try go_split_ands);go_simp;first | done | with_reducible rfl)
 (try simp only[pt,Act.put]);refine anyD.take (i:=3) (v:= ?v13) rfl (by kernel_rfl) (by kernel_rfl) (by kernel_rfl) (fun _ _ _ h=>h) (by rfl) (Or.inl ⟨by rfl,?hy13⟩) ⟨hTF.1,fun _=>hTF.2⟩ ?rest13
 case hy13=>(intro w hSw;(try dsimp only at hSw);(try go_split_ands);go_simp;first | done | with_reducible rfl)
 (try simp only[pt,Act.put]);refine anyD.take (i:=4) (v:= ?v14) rfl (by kernel_rfl) (by kernel_rfl) (by kernel_rfl) (fun _ _ _ h=>h) (by rfl) (Or.inl ⟨by rfl,?hy14⟩) ⟨hTF.1,fun _=>hTF.2⟩ ?rest14
 case hy14=>(intro w hSw;(try dsimp only at hSw);(try go_split_ands);go_simp;first | done | with_reducible rfl)
 (try simp only[pt,Act.put]);refine anyD.takeF (i:=5) rfl (by kernel_rfl) (by kernel_rfl) (by kernel_rfl) (fun _ _ _ h=>h) (by rfl) (by kernel_rfl) (by rfl) (yieldsIf_load_mid (by rfl) 24 _ rfl _ 0 rfl _ _ (fun _ h=>h.2.2.2.1) Tryz.underlying24 rfl (by kernel_rfl)) ⟨hTF.1,fun _=>hTF.2⟩ ?_;(try simp only[pt,Act.put]);refine anyD.take (i:=6) (v:= ?v15) rfl (by kernel_rfl) (by kernel_rfl) (by kernel_rfl) (fun _ _ _ h=>h) (by rfl) (Or.inl ⟨by rfl,?hy15⟩) ⟨hTF.1,fun _=>hTF.2⟩ ?rest15
 case hy15=>(intro w hSw;(try dsimp only at hSw);(try go_split_ands);go_simp;first | done | with_reducible rfl)
 (try simp only[pt,Act.put]);refine anyD.takeF (i:=7) rfl (by kernel_rfl) (by kernel_rfl) (by kernel_rfl) (fun _ _ _ h=>h) (by rfl) (by kernel_rfl) (by rfl) (yieldsIf_load_row (by rfl) 78 _ rfl _ rfl 78 _ (0,0) _ (fun _ h=>h.2.2.1) Tryz.underlying78 rfl (by kernel_rfl)) ⟨hTF.1,fun _=>hTF.2⟩ ?_;(try simp only[pt,Act.put]);refine anyD.take (i:=9) (v:= ?v16) rfl (by kernel_rfl) (by kernel_rfl) (by kernel_rfl) (fun _ _ _ h=>h) (by rfl) (Or.inl ⟨by rfl,?hy16⟩) ⟨hTF.1,fun _=>hTF.2⟩ ?rest16
 case hy16=>(intro w hSw;(try dsimp only at hSw);(try go_split_ands);go_simp;first | done | with_reducible rfl)
 (try simp only[pt,Act.put]);refine anyD.one (i:=8) (by kernel_rfl) rfl (by rfl) (fun K hK=> ?_);go_simp;refine(set_g _ l most room i (opnN n (-1)) _ (.slice aon n.names.length cpn) W5 S5.out.oldX (S5.out.g 0 rfl) HL.out ((S5.out.g 1 rfl:NodeX _ n _ _).same (m:=opnN n (-1)) rfl) (by show n.names.length≤_;rw[←HNN.out];exact(HN.out.node i).1)).mono ?_;rintro e W6 ⟨ao2,co2,rfl,hg2,hb⟩;have S6:=zd ((S5.out.call hb).more (DiskX.firm _ _) hg2);clear hb hTF hg2;go_wp2_with fail;refine hK.out _ _ trivial (fun hHeld=> ?_);clear hK K;(try simp only[pt,Act.put]);(refine zO 10 fun K hK=> ?_);go_simp;refine(settle_g _ (setL l i (opnN n (-1))) most room i _ _ W6 S6.out.oldX (S6.out.g 2 rfl) (HN.out.set (by show n.names.length≤_;rw[←HNN.out];exact(HN.out.node i).1) (by show Up n.names;rw[←HNN.out];exact(HN.out.node i).2) i)).mono ?_;rintro e W7 ⟨ao3,co3,rfl,hg3,hb⟩;have S7:=zd ((S6.out.call hb).more (DiskX.firm _ _) hg3);clear hb hHeld hg3;go_wp2_with fail;refine hK.out _ _ trivial (fun hHeld=> ?_);clear hK K;(try simp only[pt,Act.put]);refine zY 11 ?_;refine zY 12 ?_;refine zY 13 ?_;(refine zO 14 fun K hK=> ?_);rw[if_pos (by rfl)];refine wp_store_w3 24 _ _ rfl bw rfl rfl (S7.out.at 0 rfl) (by kernel_rfl) rfl rfl rfl ?_;intro W8 hb hg hs hn;have S8:=zd (S7.out.set 0 rfl hb hg hs hn);clear hb hg hs hn hHeld;refine hK.out _ _ trivial (fun hHeld=> ?_);clear hK K;(try simp only[pt,Act.put]);refine wpAnyH_done (by kernel_rfl) ?_ _;go_wp2_with fail;go_end0;exact⟨ao3,co3,rfl,by unfold openedL;rw[HNN.out];exact S8.out.gX 3 rfl,S8.out.bel,by unfold openedL;rw[HNN.out];exact S8.out.at 0 rfl⟩
end Go.Proofs.YtmiekcdkamgknaaGreatDoor
namespace Go.Proofs.YtmiekcdkamgknaaGreatDoor
open Go.RowKit Go.Shelf
attribute [local go_sem ↓] Go.wp_at_zero Go.wp_at_succ
theorem Ord.add {l:List NodeL}(h:Dsk l){n:NodeL}(hn:SmallN n)(hu:Up n.names)(most room:Int):Ord (addL l most room n):=by
 have hs:Siz 111 130 (addL l most room n):=Siz.add (a:=110) (c:=130) ⟨h.sm.1,h.sm.2⟩ hn most room;refine⟨Nat.le_trans hs.1 (by decide),fun m hm=>Nat.le_trans (hs.2 m hm).2 (by decide),fun m hm=> ?_⟩;have ho:=h.ord.up;unfold addL at hm;split at hm
 · exact ho m hm
 · split at hm
   · rcases List.mem_append.1 hm with hm | hm
     · exact ho m hm
     · rw[List.mem_singleton]at hm;subst hm;exact hu
   · rcases List.mem_or_eq_of_mem_set hm with hm | rfl
     · exact ho m hm
     · exact hu
end Go.Proofs.YtmiekcdkamgknaaGreatDoor
