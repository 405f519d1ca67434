import Derived.Test.YtbjkkijickbppaaGreatDoorR13
import Derived.Test.YtbjkkijickbppaaGreatDoorR12
import Derived.Laws.IdiomCopy
import Derived.Lib.SliceRun
import Derived.Laws.ResultCell
namespace Go.Proofs.YtbjkkijickbppaaGreatDoor
open Go.RowKit Go.Shelf
attribute [local go_sem ↓] Go.wp_at_zero Go.wp_at_succ
set_option maxRecDepth 100000 in
set_option maxHeartbeats 4000000 in
theorem alike_any (a b:NodeL)(va vb:Value)(w:World)(ha:RdNm w.heap.size (a,va) w)(hb:RdNm w.heap.size (b,vb) w)(hal:a.names.length≤10000)(hbl:b.names.length≤10000) :
 Calls Tryz.prog 76 #[nval a va,nval b vb] w fun e w'=>e = .returned (.bool (decide (a=b)))∧Below w.heap.size w w':=by
 obtain⟨aoa,capa,ea,_,_⟩:=Rd.form ha;obtain⟨aob,capb,eb,_,_⟩:=Rd.form hb;have ea':va = .slice aoa a.names.length capa:=ea;have eb':vb = .slice aob b.names.length capb:=eb;subst ea' eb';have hb0:Below w.heap.size w ((w.alloc (.cells #[.int .i64 a.kind, .int .i64 a.mode, .int .i64 a.owner, .int .i64 a.links, .int .i64 a.opn, .int .i64 a.up, .string (bs a.data), .slice aoa a.names.length capa] 76)).alloc (.cells #[.int .i64 b.kind, .int .i64 b.mode, .int .i64 b.owner, .int .i64 b.links, .int .i64 b.opn, .int .i64 b.up, .string (bs b.data), .slice aob b.names.length capb] 76)):=((Below.refl _ w).alloc (Nat.le_refl _) _).alloc (by simp) _;have HA:Hid (Rd _ 2 (.slice aoa a.names.length capa) a.names.length (ents a.names) _):=Lib.hid (Rd.below ha hb0);have HB:Hid (Rd _ 2 (.slice aob b.names.length capb) b.names.length (ents b.names) _):=Lib.hid (Rd.below hb hb0);clear ea eb ha hb;by_cases h0:a.kind=b.kind
 case neg =>
  (have hI:(a.kind == b.kind)=false:=by simpa using h0);have HF:Hid (decide (a=b)=false):=Lib.hid (by rw[decide_eq_false_iff_not];intro e;exact h0 (by rw[e]));clear h0;go_enter Tryz.func76,Tryz.ntmps76;go_wp2_with fail;go_ret;exact⟨ret_bool HF.out.symm,hb0⟩
 (have g0:(a.kind == b.kind)=true:=by simpa using h0);by_cases h1:a.mode=b.mode
 case neg =>
  (have hI:(a.mode == b.mode)=false:=by simpa using h1);have HF:Hid (decide (a=b)=false):=Lib.hid (by rw[decide_eq_false_iff_not];intro e;exact h1 (by rw[e]));clear h1 h0;go_enter Tryz.func76,Tryz.ntmps76;go_wp2_with fail;go_ret;exact⟨ret_bool HF.out.symm,hb0⟩
 (have g1:(a.mode == b.mode)=true:=by simpa using h1);by_cases h2:a.owner=b.owner
 case neg =>
  (have hI:(a.owner == b.owner)=false:=by simpa using h2);have HF:Hid (decide (a=b)=false):=Lib.hid (by rw[decide_eq_false_iff_not];intro e;exact h2 (by rw[e]));clear h2 h0 h1;go_enter Tryz.func76,Tryz.ntmps76;go_wp2_with fail;go_ret;exact⟨ret_bool HF.out.symm,hb0⟩
 (have g2:(a.owner == b.owner)=true:=by simpa using h2);by_cases h3:a.links=b.links
 case neg =>
  (have hI:(a.links == b.links)=false:=by simpa using h3);have HF:Hid (decide (a=b)=false):=Lib.hid (by rw[decide_eq_false_iff_not];intro e;exact h3 (by rw[e]));clear h3 h0 h1 h2;go_enter Tryz.func76,Tryz.ntmps76;go_wp2_with fail;go_ret;exact⟨ret_bool HF.out.symm,hb0⟩
 (have g3:(a.links == b.links)=true:=by simpa using h3);by_cases h4:a.opn=b.opn
 case neg =>
  (have hI:(a.opn == b.opn)=false:=by simpa using h4);have HF:Hid (decide (a=b)=false):=Lib.hid (by rw[decide_eq_false_iff_not];intro e;exact h4 (by rw[e]));clear h4 h0 h1 h2 h3;go_enter Tryz.func76,Tryz.ntmps76;go_wp2_with fail;go_ret;exact⟨ret_bool HF.out.symm,hb0⟩
 (have g4:(a.opn == b.opn)=true:=by simpa using h4);by_cases h5:a.up=b.up
 case neg =>
  (have hI:(a.up == b.up)=false:=by simpa using h5);have HF:Hid (decide (a=b)=false):=Lib.hid (by rw[decide_eq_false_iff_not];intro e;exact h5 (by rw[e]));clear h5 h0 h1 h2 h3 h4;go_enter Tryz.func76,Tryz.ntmps76;go_wp2_with fail;go_ret;exact⟨ret_bool HF.out.symm,hb0⟩
 (have g5:(a.up == b.up)=true:=by simpa using h5);by_cases h6:a.data=b.data
 case neg =>
  (have hI:(a.data == b.data)=false:=by simpa using h6);have HF:Hid (decide (a=b)=false):=Lib.hid (by rw[decide_eq_false_iff_not];intro e;exact h6 (by rw[e]));clear h6 h0 h1 h2 h3 h4 h5;go_enter Tryz.func76,Tryz.ntmps76;go_wp2_with fail;go_ret;exact⟨ret_bool HF.out.symm,hb0⟩
 have g6:(a.data == b.data)=true:=by simpa using h6
 have HE:Hid (decide (a.names=b.names)=decide (a=b)):=Lib.hid (by
  rw[Bool.eq_iff_iff,decide_eq_true_iff,decide_eq_true_iff]
  exact⟨fun e=>node_ext h0 h1 h2 h3 h4 h5 h6 e,fun e=>by rw[e]⟩)
 clear h0 h1 h2 h3 h4 h5 h6;go_enter Tryz.func76,Tryz.ntmps76;go_wp2_with fail;refine(same_any _ _ _ a.names b.names _ HA.out HB.out (by omega) (by omega)).mono ?_;rintro e w1 ⟨rfl,n1,rfl⟩;rw[HE.out];go_wp2_with fail;go_ret;exact⟨rfl,below_drewN hb0 n1⟩
end Go.Proofs.YtbjkkijickbppaaGreatDoor
namespace Go.Proofs.YtbjkkijickbppaaGreatDoor
def setL (l:List NodeL)(i:Int)(n:NodeL):List NodeL:=if inL l i then l.set i.toNat n else l
def idxL:List NodeL→Nat→Int
 | [],_=> -1
 | n::l,k=>if n.kind=0 then k else idxL l (k+1)
def addNo (l:List NodeL)(most room:Int)(n:NodeL):Bool:=decide (most≤(usedL l:Int)) || decide (room<(bytesL l:Int)+(weightL n:Int))
def addI (l:List NodeL)(most room:Int)(n:NodeL):Int:=if addNo l most room n then 0 else if idxL l 0<0 then l.length else idxL l 0
def addE (l:List NodeL)(most room:Int)(n:NodeL):Int:=if addNo l most room n then 10 else 0
def addL (l:List NodeL)(most room:Int)(n:NodeL):List NodeL:=if addNo l most room n then l else if idxL l 0<0 then l++ [n]else l.set (idxL l 0).toNat n
theorem idx_cases (l:List NodeL)(k:Nat):(idxL l k = -1∧∀i (h:i<l.length),l[i].kind≠0)∨∃j,∃h:j<l.length,idxL l k=((k+j:Nat):Int)∧l[j].kind=0∧∀i (hi:i<j),(l[i]'(by omega)).kind≠0:=by
 induction l generalizing k with
 | nil=>exact .inl ⟨rfl,fun i h=>by simp at h⟩
 | cons n l ih =>
    by_cases h0:n.kind=0
    · refine .inr ⟨0,by simp,?_,h0,fun i hi=>absurd hi (Nat.not_lt_zero _)⟩
      unfold idxL;rw[if_pos h0];rfl
    · have e:idxL (n::l) k=idxL l (k+1):=by
       conv=>lhs;unfold idxL
       rw[if_neg h0]
      rw[e];rcases ih (k+1)with⟨h1,h2⟩ | ⟨j,hj,h1,h2,h3⟩
      · refine .inl ⟨h1,fun i h=> ?_⟩
        cases i with
        | zero=>exact h0
        | succ i=>exact h2 i (by simpa using h)
      · refine .inr ⟨j+1,by simpa using hj,by rw[h1];congr 1;omega,h2,fun i hi=> ?_⟩
        cases i with
        | zero=>exact h0
        | succ i=>exact h3 i (by omega)
end Go.Proofs.YtbjkkijickbppaaGreatDoor
namespace Go.Proofs.YtbjkkijickbppaaGreatDoor
open Go.RowKit Go.Shelf
attribute [local go_sem ↓] Go.wp_at_zero Go.wp_at_succ
end Go.Proofs.YtbjkkijickbppaaGreatDoor
namespace Go.Proofs.YtbjkkijickbppaaGreatDoor
open Go.RowKit Go.Shelf
attribute [local go_sem ↓] Go.wp_at_zero Go.wp_at_succ
theorem rd_block {B size n g:Nat}{W:World}{xs:List Value}{t:TypeId}{fr:Nat × Nat}(h:W.heap[g]? = some (.cells xs.toArray t fr))(hl:xs.length=n*size)(hn:n≤maxLen)(hg:g<B):Rd B size (.slice (some ⟨g,0,none⟩) n n) n xs W:=by
 refine⟨_,_,rfl,Nat.le_refl _,hn,fun e=>(by cases e),hl,fun _=>⟨g,0,rfl,hg,fun j u hu=> ?_⟩⟩;rw[Lib.cell_of_heap h,Nat.zero_add];simpa using hu
end Go.Proofs.YtbjkkijickbppaaGreatDoor
namespace Go.Proofs.YtbjkkijickbppaaGreatDoor
open Go.RowKit Go.Shelf
attribute [local go_sem ↓] Go.wp_at_zero Go.wp_at_succ
set_option maxRecDepth 100000 in
set_option maxHeartbeats 1000000 in
theorem clone_ents (v:Value)(l:List EntL)(w:World)(hv:Rd w.heap.size 2 v l.length (ents l) w)(hl:l.length≤10000) :
 Calls Tryz.prog 129 #[v] w fun e w'=>∃v',e = .returned v'∧w'.ownsRow w.heap.size 136 2 v' l.length (ents l)∧Below w.heap.size w w':=by
 obtain⟨i0,hi,hz0,hz1,hz2⟩:=info_parts infoEnt;(have qq : ∀(w:World) (a:Option Addr) (n c n' c':Nat),(binOp .eql 65 (.slice a n c) (.slice none n' c')).run Tryz.prog w = .ok (.bool a.isNone) w:=fun w a n c n' c'=>Lib.run_eql_slice_nil w _ _ a n c n' c' Tryz.underlying65);obtain⟨ao,cap,rfl,hc,hm,h0,hlen,_⟩:=id hv
 cases ao with
 | none =>
    obtain rfl:=h0 rfl;have hl0:l = []:=List.eq_nil_of_length_eq_zero (by omega);subst hl0;go_enter Tryz.func129,Tryz.ntmps129;go_wp2_with fail;go_ret;exact⟨_,rfl,World.ownsRow_nil _ _ _ _,Below.refl _ _⟩
 | some a =>
    have hba:Below w.heap.size w (w.alloc (.cells #[] 136)):=(Below.refl _ w).alloc (Nat.le_refl _) _;have HV:=Lib.hid (hv.below hba);clear hv;go_enter Tryz.func129,Tryz.ntmps129;go_wp2_with (at_builtin;go_loud (refine wpList_append_rd rfl (.tmp 5) (.tmp 6) 65 rfl w.heap.size 136 i0 _ 2 24 Tryz.underlying65 hi hz0 hz1 hz2 rfl (by decide) _ 0 [] rfl (World.ownsRow_lit (size:=2) w #[] 0 (Nat.le_refl _) (Nat.zero_le _) rfl) w.heap.size _ l.length (ents l) rfl HV.out (ents_one _) (by unfold maxLen;omega) (by omega) (by simp) ?_));intro v3 w3 ho3 hgr3;have hB3:Below w.heap.size w w3:=hba.grown hgr3 (by simp) (fun j ej=>by simp[Value.ownBlock]at ej;omega);go_wp2_with fail;go_ret;exact⟨_,rfl,ho3,hB3⟩
set_option maxRecDepth 100000 in
set_option maxHeartbeats 1000000 in
theorem own_any (n:NodeL)(v:Value)(w:World)(hv:RdNm w.heap.size (n,v) w)(hl:n.names.length≤10000) :
 Calls Tryz.prog 85 #[nval n v] w fun e w'=>∃v',e = .returned (nval n v')∧w'.ownsRow w.heap.size 136 2 v' n.names.length (ents n.names)∧Below w.heap.size w w':=by
 obtain⟨ao,cap,e,_,_⟩:=Rd.form hv;have e':v = .slice ao n.names.length cap:=e;subst e';have HV:Hid (Rd w.heap.size 2 (.slice ao n.names.length cap) n.names.length (ents n.names) w):=Lib.hid hv;clear hv e;go_enter Tryz.func85,Tryz.ntmps85;go_wp2_with fail;refine fresh2 (P:=fun W=>Calls _ _ _ W _) ?_;intro W0 hb0 hP hR hs0;refine(clone_ents (.slice ao n.names.length cap) n.names W0 (rd_keep HV.out hb0) hl).mono ?_;rintro e W1 ⟨v1,rfl,ho1,hb1⟩;have hP1:=(hb1.block _ (by omega)).trans hP;have hR1:=(hb1.block _ (by omega)).trans hR;have hB1:=ret_tr hb0 hb1;obtain⟨ao1,cap1,rfl⟩:=own_form ho1;obtain⟨p0,p1,p2,p3,p4,p5,p6,p7⟩:=cells8 hP1;obtain⟨q0,q1,q2,q3,q4,q5,q6,q7⟩:=cells8 hR1;(have pf:=fun j=>Lib.frozen_of_heap hP1 j);(have rf:=fun j=>Lib.frozen_of_heap hR1 j);clear hb0 hP hR hb1;go_wp2_with fail;have hRs:=(Below.heap_setCell W1 ⟨w.heap.size,7,none⟩ (.slice ao1 n.names.length cap1) (w.heap.size+1) (by show w.heap.size+1≠w.heap.size;omega)).trans hR1;have ho2:=ownsRow_set (b:=w.heap.size) (i:=7) (u:= .slice ao1 n.names.length cap1) ho1 (by omega);have hB2:=hB1.setCell (p:=⟨w.heap.size,7,none⟩) (Nat.le_refl _) (.slice ao1 n.names.length cap1);refine sets8 (P:=fun W=>bodyPost _ _ _ _ _ W) hRs ?_;intro W3 hb3 hg3 hs3 hR3;refine bodyPost_ret (results_cell_row (p:=2) (ty:=67) rfl _ W3 (w.heap.size+1) _ _ _ _ rfl hR3 Tryz.underlying67 rfl (by kernel_rfl)) rfl ?_;exact⟨_,rfl,own_mono (ownsRow_other ho2 fun g hg=>hg3 g (by omega)) (by omega),hB2.trans (hb3.mono (by omega))⟩
def Avoid (g:Nat)(v:Value):Prop:=∀a n' c,v = .slice (some a) n' c→0<n'→a.block≠g
def AvoidM (g:Nat)(v:Value)(ms:List NodeM):Prop:=Avoid g v∧∀x∈ms,Avoid g x.2
theorem rd_far {B size n g:Nat}{v:Value}{xs:List Value}{W:World}(h:Rd B size v n xs W)(hg:B≤g) : ∀a n' c,v = .slice (some a) n' c→0<n'→a.block≠g:=by
 rintro a n' c rfl hn;obtain⟨ao,cp,e,_,_,_,_,h⟩:=h;injection e with e1 e2 _;obtain⟨b,off,e3,hlt,_⟩:=h (by omega);rw[←e1]at e3;injection e3 with e3;subst e3;show b≠g;omega
theorem own_far {W:World}{base g:Nat}{e:TypeId}{size n:Nat}{v:Value}{xs:List Value}(h:W.ownsRow base e size v n xs)(hg:g<base) : ∀a n' c,v = .slice (some a) n' c→0<n'→a.block≠g:=by
 rintro a n' c rfl _;have:=(h.lt a.block rfl).1;omega
theorem heap_setCells (b k:Nat)(hk:k≠b) : ∀(vs:List Value) (o:Nat) (W:World),(W.setCells b o vs).heap[k]? = W.heap[k]?
 | [],_,_=>rfl
 | v::r,o,W=>by rw[World.setCells,heap_setCells b k hk r (o+1),Below.heap_setCell _ _ _ k hk]
theorem size_setCells (b:Nat) : ∀(vs:List Value) (o:Nat) (W:World),(W.setCells b o vs).heap.size=W.heap.size
 | [],_,_=>rfl
 | v::r,o,W=>by rw[World.setCells,size_setCells b r (o+1)];simp
theorem below_setCells (B b:Nat)(hB:B≤b) : ∀(vs:List Value) (o:Nat) (W:World),Below B W (W.setCells b o vs)
 | [],_,W=>Below.refl _ _
 | v::r,o,W=>by
    rw[World.setCells];exact((Below.refl B W).setCell (p:=⟨b,o,none⟩) hB v).trans (below_setCells B b hB r (o+1) _)
theorem rd_other {B size n g:Nat}{v:Value}{xs:List Value}{W W':World}(h:Rd B size v n xs W)(hf : ∀a n' c,v = .slice (some a) n' c→0<n'→a.block≠g)(hg : ∀k,k≠g→W'.heap[k]? = W.heap[k]?):Rd B size v n xs W':=by
 obtain⟨ao,cp,e,hc,hm,hz,hl,h⟩:=id h;refine⟨ao,cp,e,hc,hm,hz,hl,fun hn=> ?_⟩;obtain⟨b,off,e2,hlt,hcc⟩:=h hn;refine⟨b,off,e2,hlt,fun j u hu=> ?_⟩;rw[World.cell?_of_block (a:=⟨b,off+j,none⟩) (hg b (hf ⟨b,off,none⟩ _ _ (by rw[e,e2]) hn))];exact hcc j u hu
theorem rdm_other {B g:Nat}{v:Value}{ms:List NodeM}{W W':World}(h:RdM B v ms W)(hf : ∀a n' c,v = .slice (some a) n' c→0<n'→a.block≠g)(hfm : ∀x∈ms,∀a n' c,x.2 = .slice (some a) n' c→0<n'→a.block≠g)(hg : ∀k,k≠g→W'.heap[k]? = W.heap[k]?):RdM B v ms W' :=
 ⟨rd_other h.1 hf hg,fun m hm=>rd_other (h.2 m hm) (hfm m hm) hg⟩
def SetK (b:Nat)(u0 c0 c1 c2 c3 c4 c5 c6 c7:Value)(W:World):Prop :=
 b+1<W.heap.size∧W.cell? ⟨b,0,none⟩=some u0∧W.cell? ⟨b+1,0,none⟩=some c0∧W.cell? ⟨b+1,1,none⟩=some c1∧W.cell? ⟨b+1,2,none⟩=some c2∧W.cell? ⟨b+1,3,none⟩=some c3∧W.cell? ⟨b+1,4,none⟩=some c4∧W.cell? ⟨b+1,5,none⟩=some c5∧W.cell? ⟨b+1,6,none⟩=some c6∧W.cell? ⟨b+1,7,none⟩=some c7
theorem SetK.keep {b:Nat}{u0 c0 c1 c2 c3 c4 c5 c6 c7:Value}{W W':World}(h:SetK b u0 c0 c1 c2 c3 c4 c5 c6 c7 W)(hb:Below W.heap.size W W'):SetK b u0 c0 c1 c2 c3 c4 c5 c6 c7 W':=by
 obtain⟨h,g0,g1,g2,g3,g4,g5,g6,g7,g8⟩:=h;have:=hb.size;refine⟨by omega,(hb.cell (by show b<_;omega)).trans g0,(hb.cell h).trans g1,(hb.cell h).trans g2,(hb.cell h).trans g3,(hb.cell h).trans g4,(hb.cell h).trans g5,(hb.cell h).trans g6,(hb.cell h).trans g7,(hb.cell h).trans g8⟩
theorem SetK.cells {b:Nat}{u0 c0 c1 c2 c3 c4 c5 c6 c7:Value}{W:World}(h:SetK b u0 c0 c1 c2 c3 c4 c5 c6 c7 W):W.cell? ⟨b,0,none⟩=some u0∧W.cell? ⟨b+1,0,none⟩=some c0∧W.cell? ⟨b+1,1,none⟩=some c1∧W.cell? ⟨b+1,2,none⟩=some c2∧W.cell? ⟨b+1,3,none⟩=some c3∧W.cell? ⟨b+1,4,none⟩=some c4∧W.cell? ⟨b+1,5,none⟩=some c5∧W.cell? ⟨b+1,6,none⟩=some c6∧W.cell? ⟨b+1,7,none⟩=some c7:=h.2
theorem SetK.of {b:Nat}{u0 u1 u2 c0 c1 c2 c3 c4 c5 c6 c7:Value}{t t':TypeId}{W:World}(h:W.heap[b]? = some (.cells #[u0,u1,u2] t (0,0)))(h':W.heap[b+1]? = some (.cells #[c0,c1,c2,c3,c4,c5,c6,c7] t' (0,0))):SetK b u0 c0 c1 c2 c3 c4 c5 c6 c7 W :=
 ⟨(Array.getElem?_eq_some_iff.1 h').1,(cells3 h).1,cells8 h'⟩
end Go.Proofs.YtbjkkijickbppaaGreatDoor
namespace Go.Proofs.YtbjkkijickbppaaGreatDoor
open Go.RowKit Go.Shelf
attribute [local go_sem ↓] Go.wp_at_zero Go.wp_at_succ
theorem results_ct {P:Program}{fn:Func}{p u:Tmp}{ty:TypeId}(h:fn.results = #[.cell p ty, .tmp u])(tmps:Array Value)(w:World)(g:Nat)(t:TypeId)(cs:Array Value)(fr:Nat × Nat)(d:TypeDesc)
 (hp:tmps.getD p undef = .pointer (some ⟨g,0,none⟩)) (hg:w.heap[g]? = some (.cells cs t fr))
 (hu:P.underlying ty=some d) (hd:(match d with | .struct _ | .array _ _=>true | _=>false)=true) (hi:(P.info? ty).map (·.size)=some cs.size) :
 (results fn tmps).run P w = .ok (.tuple #[.agg cs,tmps.getD u undef]) w:=by
  rw[results_cell_tmp h,hp];simp[asAddr,run_loadVar_row w g t ty cs fr d hg hu hd hi,Result.andThen]
theorem results_ctt {P:Program}{fn:Func}{p u v:Tmp}{ty:TypeId}(h:fn.results = #[.cell p ty, .tmp u, .tmp v])(tmps:Array Value)(w:World)(g:Nat)(t:TypeId)(cs:Array Value)(fr:Nat × Nat)(d:TypeDesc)
 (hp:tmps.getD p undef = .pointer (some ⟨g,0,none⟩)) (hg:w.heap[g]? = some (.cells cs t fr))
 (hu:P.underlying ty=some d) (hd:(match d with | .struct _ | .array _ _=>true | _=>false)=true) (hi:(P.info? ty).map (·.size)=some cs.size) :
 (results fn tmps).run P w = .ok (.tuple #[.agg cs,tmps.getD u undef,tmps.getD v undef]) w:=by
  (have hp':tmps[p]?.getD undef = .pointer (some ⟨g,0,none⟩):=by simpa using hp);simp[results,h,hp',asAddr,run_loadVar_row w g t ty cs fr d hg hu hd hi,Result.andThen]
def getL (l:List NodeL)(i:Int):NodeL:=if gotB l i then atI l i else zeroN
def GetIs (l:List NodeL)(i:Int)(e:Ending)(W W':World):Prop :=
 ∃v,e = .returned (.tuple #[nval (getL l i) v, .bool (gotB l i)])∧RdNm W'.heap.size (getL l i,v) W'∧Below W.heap.size W W'
theorem get_no {l:List NodeL}{i:Int}{w W:World}(h:gotB l i=false)(hb:Below w.heap.size w W):GetIs l i (.returned (.tuple #[.agg #[.int .i64 0, .int .i64 0, .int .i64 0, .int .i64 0, .int .i64 0, .int .i64 0, .string ⟨#[]⟩, .slice none 0 0], .bool false])) w W :=
 ⟨.slice none 0 0,by unfold getL;rw[h];rfl,by unfold getL;rw[h];exact Rd.none0 _ _ _,hb⟩
def GetNew (l:List NodeL)(i:Int)(e:Ending)(W W':World):Prop :=
 ∃v,e = .returned (.tuple #[nval (getL l i) v, .bool (gotB l i)])∧RdNm W'.heap.size (getL l i,v) W'∧Below W.heap.size W W'∧NewV W.heap.size v
theorem getn_no {l:List NodeL}{i:Int}{w W:World}(h:gotB l i=false)(hb:Below w.heap.size w W):GetNew l i (.returned (.tuple #[.agg #[.int .i64 0, .int .i64 0, .int .i64 0, .int .i64 0, .int .i64 0, .int .i64 0, .string ⟨#[]⟩, .slice none 0 0], .bool false])) w W :=
 ⟨.slice none 0 0,by unfold getL;rw[h];rfl,by unfold getL;rw[h];exact Rd.none0 _ _ _,hb,NewV.none0 _⟩
set_option maxRecDepth 100000 in
set_option maxHeartbeats 2000000 in
theorem get_new (v:Value)(ms:List NodeM)(most room i:Int)(w:World)(hv:RdM w.heap.size v ms w)(hl:ms.length≤10000)(hnl : ∀n∈pl ms,n.names.length≤10000) :
 Calls Tryz.prog 53 #[.agg #[v, .int .i64 most, .int .i64 room], .int .i64 i] w fun e w'=>GetNew (pl ms) i e w w':=by
 obtain⟨ao,cap,rfl,_,_⟩:=rdm_form hv;have HV:=Lib.hid hv;clear hv
 have hret : ∀(W:World) (cs:Array Value) (fr),W.heap[w.heap.size+1]? = some (.cells cs 67 fr)→cs.size=8→∀tmps:Array Value,tmps.getD 4 undef = .pointer (some ⟨w.heap.size+1,0,none⟩)→(results Tryz.f53 tmps).run Tryz.prog W = .ok (.tuple #[.agg cs,tmps.getD 5 undef]) W:=fun W cs fr h hs tmps ht =>
  results_ct (p:=4) (u:=5) (ty:=67) rfl tmps W (w.heap.size+1) _ cs fr _ ht h Tryz.underlying67 rfl (by rw[hs];kernel_rfl)
 cases hi:inL (pl ms) i with
 | false =>
    have HI:=Lib.hid hi;have HG:Hid (gotB (pl ms) i=false):=Lib.hid (by unfold gotB;rw[hi];rfl);clear hi;go_enter Tryz.func53,Tryz.ntmps53;go_wp2_with fail;refine fresh2 (P:=fun W=>Calls _ _ _ W _) ?_;intro W0 hb0 hP hQ hs0;refine(has_any (pl ms) ao ms.length cap most room i _ (pl_len ms).symm (by omega)).mono ?_;rintro e W1 ⟨rfl,hb1⟩;rw[HI.out];have hQ1:=(hb1.block _ (by omega)).trans hQ;have hB1:=ret_tr hb0 hb1;obtain⟨q0,q1,q2,q3,q4,q5,q6,q7⟩:=cells8 hQ1;(have rf:=fun j=>Lib.frozen_of_heap hQ1 j);clear hP hQ hb0 hb1;go_wp2_with fail;refine sets8 (P:=fun W=>bodyPost _ _ _ _ _ W) hQ1 ?_;intro W3 hb3 hg3 hs3 hR3;refine bodyPost_ret (hret _ _ _ hR3 rfl _ rfl) rfl ?_;exact getn_no HG.out (hB1.trans (hb3.mono (by omega)))
 | true =>
    obtain⟨k,rfl,hk⟩:=in_nat hi;have hat:=at_nat (pl ms) k hk;rw[pl_len]at hk;have HI:=Lib.hid hi;have HA:=Lib.hid hat;(have k0:(0:Int)≤(k:Int):=by omega);(have k1:(k:Int)<(ms.length:Int):=by omega);clear hat;go_enter Tryz.func53,Tryz.ntmps53;go_wp2_with fail;refine fresh2 (P:=fun W=>Calls _ _ _ W _) ?_;intro W0 hb0 hP hQ hs0;refine(has_any (pl ms) ao ms.length cap most room k _ (pl_len ms).symm (by omega)).mono ?_;rintro e W1 ⟨rfl,hb1⟩;rw[HI.out];have hP1:=(hb1.block _ (by omega)).trans hP;have hQ1:=(hb1.block _ (by omega)).trans hQ;have hB1:=ret_tr hb0 hb1;have hs1:=hb1.size;have p0:=(cells3 hP1).1;clear hP hQ hb0 hb1;obtain⟨b,off,n,aon,capn,rfl,hb,hn, -,hrn,c0,c1,c2,c3,c4,c5,c6,c7⟩:=node_at (HV.out.below hB1) k hk;rw[hn]at HA;have hnn:n.names.length≤10000:=hnl n (by rw[←hn];exact List.getElem_mem _);have HR1:Hid (RdNm W1.heap.size (n, .slice aon n.names.length capn) W1):=Lib.hid (Rd.mono hrn hB1.size);clear hn hrn;by_cases h0:n.kind=0
    · have hd:decide (n.kind=0)=true:=by simpa using h0
      have HG:Hid (gotB (pl ms) k=false):=Lib.hid (by unfold gotB;rw[HA.out,hd,Bool.not_true,Bool.and_false]);clear h0 hi;go_wp2_with fail;refine(free_any n _ _).mono ?_;rintro e W2 ⟨rfl,hb2⟩;rw[hd];have hQ2:=(hb2.block _ (by omega)).trans hQ1;have hB2:=ret_tr hB1 hb2;have hs2:=hb2.size;clear hP1 hQ1 hB1 hb2 c0 c1 c2 c3 c4 c5 c6 c7 p0;obtain⟨q0,q1,q2,q3,q4,q5,q6,q7⟩:=cells8 hQ2;(have rf:=fun j=>Lib.frozen_of_heap hQ2 j);go_wp2_with fail;refine sets8 (P:=fun W=>bodyPost _ _ _ _ _ W) hQ2 ?_;intro W3 hb3 hg3 hs3 hR3;refine bodyPost_ret (hret _ _ _ hR3 rfl _ rfl) rfl ?_;exact getn_no HG.out (hB2.trans (hb3.mono (by omega)))
    · have hd:decide (n.kind=0)=false:=by simpa using h0
      have HG:Hid (gotB (pl ms) k=true):=Lib.hid (by unfold gotB;rw[HA.out,hd,hi];rfl);clear h0 hi;go_wp2_with fail;refine(free_any n _ _).mono ?_;rintro e W2 ⟨rfl,hb2⟩;rw[hd];have hP2:=(hb2.block _ (by omega)).trans hP1;have hQ2:=(hb2.block _ (by omega)).trans hQ1;have hB2:=ret_tr hB1 hb2;have hs2:=hb2.size;have HR2:=Lib.hid (rdnm_keep HR1.out hb2);have p2:=(cells3 hP2).1;(have bb:b<W1.heap.size:=by omega);have d0:=(hb2.cell (p:=⟨b,off+k*8,none⟩) bb).trans c0;have d1:=(hb2.cell (p:=⟨b,off+k*8+1,none⟩) bb).trans c1;have d2:=(hb2.cell (p:=⟨b,off+k*8+2,none⟩) bb).trans c2;have d3:=(hb2.cell (p:=⟨b,off+k*8+3,none⟩) bb).trans c3;have d4:=(hb2.cell (p:=⟨b,off+k*8+4,none⟩) bb).trans c4;have d5:=(hb2.cell (p:=⟨b,off+k*8+5,none⟩) bb).trans c5;have d6:=(hb2.cell (p:=⟨b,off+k*8+6,none⟩) bb).trans c6;have d7:=(hb2.cell (p:=⟨b,off+k*8+7,none⟩) bb).trans c7;clear hP1 hQ1 hB1 hb2 c0 c1 c2 c3 c4 c5 c6 c7 p0;go_wp2_with fail;refine(own_any n _ _ HR2.out hnn).mono ?_;rintro e W3 ⟨v',rfl,hoN,hbN⟩;have hQ3:=(hbN.block _ (by omega)).trans hQ2;have hB3:=ret_tr hB2 hbN;have hs3:=hbN.size;clear hP2 hQ2 hbN p2 d0 d1 d2 d3 d4 d5 d6 d7;obtain⟨q0,q1,q2,q3,q4,q5,q6,q7⟩:=cells8 hQ3;(have rf:=fun j=>Lib.frozen_of_heap hQ3 j);obtain⟨aov,capv,rfl⟩:=own_form hoN;go_wp2_with fail;refine sets8 (P:=fun W=>bodyPost _ _ _ _ _ W) hQ3 ?_;intro W4 hb4 hg4 hs4 hR4;refine bodyPost_ret (hret _ _ _ hR4 rfl _ rfl) rfl ?_
      (have hget:getL (pl ms) k=n:=by unfold getL;rw[HG.out,HA.out];rfl);refine⟨.slice aov n.names.length capv,by rw[hget,HG.out];rfl,?_,hB3.trans (hb4.mono (by omega)),(NewV.own hoN).mono hB2.size⟩;rw[hget];exact Rd.own (ownsRow_other hoN fun g hg=>hg4 g (by omega)) (Nat.le_refl _)
end Go.Proofs.YtbjkkijickbppaaGreatDoor
namespace Go.Proofs.YtbjkkijickbppaaGreatDoor
open Go.RowKit Go.Shelf
section
variable {P:Program} {fn:Func} {Q:Ending→World→Prop} {x:Exit} {a:Act} {w:World} {A B:Obj}
theorem code_fresh1 {c:Code}{K:Exit→Act→World→Prop}(h : ∀W,Below w.heap.size w W→W.heap[w.heap.size]? = some A→W.heap.size=w.heap.size+1→c.wp P K a W):c.wp P K a (w.alloc A):=fresh1 (P:=fun W=>c.wp P K a W) h
variable {b:Nat} {u0 u1 u2 u3 u4 u5 u6 u7 r0 r1 r2 r3 r4 r5 r6 r7:Value} {t:TypeId}
end
end Go.Proofs.YtbjkkijickbppaaGreatDoor
namespace Go.Proofs.YtbjkkijickbppaaGreatDoor
open Go.RowKit Go.Shelf
attribute [local go_sem ↓] Go.wp_at_zero Go.wp_at_succ
set_option maxRecDepth 100000 in
set_option maxHeartbeats 2000000 in
theorem rget_any (v:Value)(ms:List NodeM)(most room i:Int)(w:World)(hv:RdM w.heap.size v ms w)(hl:ms.length≤10000) :
 Calls Tryz.prog 17 #[.agg #[v, .int .i64 most, .int .i64 room], .int .i64 i] w fun e w'=>GetIs (pl ms) i e w w':=by
 obtain⟨ao,cap,rfl,_,_⟩:=rdm_form hv;have HV:=Lib.hid hv;have HL:=Lib.hid hl;clear hv
 have hret : ∀(W:World) (cs:Array Value) (fr),W.heap[w.heap.size+1]? = some (.cells cs 76 fr)→cs.size=8→∀tmps:Array Value,tmps.getD 4 undef = .pointer (some ⟨w.heap.size+1,0,none⟩)→(results Tryz.f17 tmps).run Tryz.prog W = .ok (.tuple #[.agg cs,tmps.getD 5 undef]) W:=fun W cs fr h hs tmps ht =>
  results_ct (p:=4) (u:=5) (ty:=76) rfl tmps W (w.heap.size+1) _ cs fr _ ht h Tryz.underlying76 rfl (by rw[hs];kernel_rfl)
 (have no : ∀W:World,gotB (pl ms) i=false→Below w.heap.size w W→GetIs (pl ms) i (.returned (.tuple #[.agg #[.int .i64 0, .int .i64 0, .int .i64 0, .int .i64 0, .int .i64 0, .int .i64 0, .string ⟨#[]⟩, .slice none 0 0], .bool false])) w W:=fun _ h hb=>get_no h hb);have HNO:=Lib.hid no;clear no;by_cases h1:i<0
 · have hI:decide (i<0)=true:=by simpa using h1
   have HG:Hid (gotB (pl ms) i=false):=Lib.hid (by unfold gotB inL;rw[show decide (0≤i)=false by simp;omega];rfl);clear h1;go_enter Tryz.func17,Tryz.ntmps17;go_wp2_with fail;refine fresh2 (P:=fun W=>bodyPost _ _ _ _ _ W) ?_;intro W0 hb0 hP hQ hs0;refine bodyPost_ret (hret _ _ _ hQ rfl _ rfl) rfl ?_;exact HNO.out _ HG.out hb0
 (have g1:decide (i<0)=false:=by simpa using h1);by_cases h2:(ms.length:Int)≤i
 · have hI:decide ((ms.length:Int)≤i)=true:=by simpa using h2
   have HG:Hid (gotB (pl ms) i=false):=Lib.hid (by unfold gotB inL;rw[show decide (i<(pl ms).length)=false by rw[pl_len];simpa using h2];simp);clear h1 h2;go_enter Tryz.func17,Tryz.ntmps17;go_wp2_with fail;refine fresh2 (P:=fun W=>bodyPost _ _ _ _ _ W) ?_;intro W0 hb0 hP hQ hs0;refine bodyPost_ret (hret _ _ _ hQ rfl _ rfl) rfl ?_;exact HNO.out _ HG.out hb0
 (have g2:decide ((ms.length:Int)≤i)=false:=by simpa using h2);obtain⟨k,rfl,hk⟩ : ∃k:Nat,i=k∧k<ms.length:=⟨i.toNat,by omega,by omega⟩;have hin:=nat_in (l:=pl ms) (k:=k) (by rw[pl_len];exact hk);have hat:=at_nat (pl ms) k (by rw[pl_len];exact hk);(have k0:(0:Int)≤(k:Int):=by omega);(have k1:(k:Int)<(ms.length:Int):=by omega);obtain⟨b,off,n,aon,capn,rfl,hb,hn, -,hrn,c0,c1,c2,c3,c4,c5,c6,c7⟩:=node_at HV.out k hk;rw[hn]at hat;by_cases h0:n.kind=0
 · have hd:(n.kind == 0)=true:=by simpa using h0
   have HG:Hid (gotB (pl ms) k=false):=Lib.hid (by unfold gotB;rw[hat];simp[h0]);clear h0 h1 h2 hin hat hn hrn;go_enter Tryz.func17,Tryz.ntmps17;go_wp2_with fail;refine fresh2 (P:=fun W=>bodyPost _ _ _ _ _ W) ?_;intro W0 hb0 hP hQ hs0;refine bodyPost_ret (hret _ _ _ hQ rfl _ rfl) rfl ?_;exact HNO.out _ HG.out hb0
 · have hd:(n.kind == 0)=false:=by simpa using h0
   have HG:Hid (gotB (pl ms) k=true):=Lib.hid (by unfold gotB;rw[hat,hin];simp[h0]);have HGe:Hid (getL (pl ms) k=n):=Lib.hid (by unfold getL;rw[HG.out,hat];rfl);have HR:=Lib.hid hrn;clear h0 h1 h2 hin hat hn hrn;go_enter Tryz.func17,Tryz.ntmps17;go_wp2_with fail;refine fresh2 (P:=fun W=>bodyPost _ _ _ _ _ W) ?_;intro W0 hb0 hP hQ hs0;refine bodyPost_ret (hret _ _ _ hQ rfl _ rfl) rfl ?_;exact⟨.slice aon n.names.length capn,by rw[HGe.out,HG.out];rfl,by rw[HGe.out];exact rd_keep HR.out hb0,hb0⟩
def NamesIs (l:List NodeL)(i:Int)(e:Ending)(W W':World):Prop:=e = .returned (.tuple #[.int .i64 ((nmL l i (0, -1)).1:Int), .int .i64 (nmL l i (0, -1)).2])∧Below W.heap.size W W'
set_option maxRecDepth 100000 in
set_option maxHeartbeats 2000000 in
theorem names_any (v:Value)(ms:List NodeM)(most room i:Int)(w:World)(hv:RdM w.heap.size v ms w)(hsm:Small (pl ms)) :
 Calls Tryz.prog 78 #[.agg #[v, .int .i64 most, .int .i64 room], .int .i64 i] w fun e w'=>NamesIs (pl ms) i e w w':=by
 (have hl:ms.length≤110:=by have:=hsm.1;rwa [pl_len]at this);obtain⟨ao,cap,rfl,_,_⟩:=rdm_form hv;have hb0:Below w.heap.size w (w.alloc (.cells #[.slice ao ms.length cap, .int .i64 most, .int .i64 room] 48)):=(Below.refl _ w).alloc (Nat.le_refl _) _;have HV:=Lib.hid (hv.below hb0);have HS:=Lib.hid hsm;clear hv hsm;go_enter Tryz.func78,Tryz.ntmps78;go_wp2_with fail;go_loop [6,7,8] (fun c d i'=>∃k:Nat,i' = .int .i64 k∧k≤ms.length∧c = .int .i64 ((nmTo (pl ms) i (0, -1) k).1:Int)∧d = .int .i64 (nmTo (pl ms) i (0, -1) k).2) (fun _ _ i'=>ms.length-(intOf i').toNat)
 case atStart=>exact⟨0,rfl,Nat.zero_le _,rfl,rfl⟩
 case round =>
  obtain⟨k,rfl,hk,rfl,rfl⟩:=hrel;by_cases hlt:k<ms.length
  · obtain⟨b,off,n,aon,capn,rfl,hb,hn, -,hrn,c0,c1,c2,c3,c4,c5,c6,c7⟩:=node_at HV.out k hlt
    have hsucc:Hid (nmTo (pl ms) i (0, -1) (k+1)=foldN i k (nmTo (pl ms) i (0, -1) k) n.names):=Lib.hid (by
     show foldN i k _ ((pl ms).getD k zeroN).names=_;rw[List.getD_eq_getElem?_getD,List.getElem?_eq_getElem (by rw[pl_len];exact hlt),hn]
     rfl)
    have hle:=nm_le HS.out i (0, -1) k;have hnl:n.names.length≤130:=(HS.out.2 n (by rw[←hn];exact List.getElem_mem _)).2;have HR:=Lib.hid hrn;clear hn hrn;generalize nmTo (pl ms) i (0, -1) k=s at *;(have hle2:s.1≤15000:=by simp at hle;omega);clear hle;go_wp2_with fail;go_loop [6,7,9] (fun c d j'=>∃j:Nat,j' = .int .i64 j∧j≤n.names.length∧c = .int .i64 ((foldN i k s (n.names.take j)).1:Int)∧d = .int .i64 (foldN i k s (n.names.take j)).2) (fun _ _ j'=>n.names.length-(intOf j').toNat)
    case atStart=>exact⟨0,rfl,Nat.zero_le _,rfl,rfl⟩
    case round =>
     obtain⟨j,rfl,hj,rfl,rfl⟩:=hrel;by_cases hlj:j<n.names.length
     · obtain⟨b2,off2,cap2,e,_,_,_,_,hc⟩:=HR.out.at (by omega)
       injection e with e1 _ e2;subst e1;subst e2;have d1:World.cell? _ ⟨b2,off2+j*2+1,none⟩=_:=hc (j*2+1) _ (ents_at1 n.names j hlj);have hst:=foldN_succ i k s n.names j hlj;have hfl:=fold_le i k (n.names.take j) s;rw[List.length_take]at hfl;generalize n.names[j]=f at *;generalize foldN i k s (n.names.take j)=t at *;obtain⟨fx,fz⟩:=f;by_cases hz:fz=i
       · have hI:(fz == i)=true:=by simpa using hz
         (have hst2:foldN i k s (n.names.take (j+1))=(t.1+1,(k:Int)):=by rw[hst];unfold stepN;rw[if_pos hz]);have HST:=Lib.hid hst2;(have ht1:t.1≤16000:=by omega);clear hz hst hst2 hc hfl;go_wp2_with fail;go_round
         case rel=>exact⟨j+1,by go_num,hlj,by rw[HST.out];go_num,by rw[HST.out]⟩
         case measure=>simp[intOf];omega
       · have hI:(fz == i)=false:=by simpa using hz
         (have hst2:foldN i k s (n.names.take (j+1))=t:=by rw[hst];unfold stepN;rw[if_neg hz]);have HST:=Lib.hid hst2;clear hz hst hst2 hc hfl;go_wp2_with fail;go_round
         case rel=>exact⟨j+1,by go_num,hlj,by rw[HST.out],by rw[HST.out]⟩
         case measure=>simp[intOf];omega
     · have hje:j=n.names.length:=by omega
       have HT:Hid (foldN i k s (n.names.take j)=nmTo (pl ms) i (0, -1) (k+1)):=Lib.hid (by rw[hje,List.take_length,hsucc.out]);(have hI2:decide (j<n.names.length)=false:=by simp;omega);clear hje hlj;go_wp2_with fail;go_round
       case rel=>exact⟨k+1,by go_num,hlt,by rw[HT.out],by rw[HT.out]⟩
       case measure=>simp[intOf];omega
  · have hke:k=ms.length:=by omega
    have HT:Hid (nmTo (pl ms) i (0, -1) k=nmL (pl ms) i (0, -1)):=Lib.hid (by rw[hke];unfold nmL;rw[pl_len]);(have hI2:decide (k<ms.length)=false:=by simp;omega);clear hke hlt;rw[HT.out];go_wp2_with fail;go_ret2;exact⟨rfl,hb0⟩
end Go.Proofs.YtbjkkijickbppaaGreatDoor
