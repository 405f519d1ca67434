import Derived.Test.YtgbmmcnadmfikaaGreatDoorR23
import Derived.Test.YtgbmmcnadmfikaaGreatDoorR28
import Derived.Test.YtgbmmcnadmfikaaGreatDoorR16
import Derived.Test.YtgbmmcnadmfikaaGreatDoorR22
import Derived.Test.YtgbmmcnadmfikaaGreatDoorR24
import Derived.Test.YtgbmmcnadmfikaaGreatDoorR15
import Derived.Shelf.Spec.SlicesGrow
import Derived.StillTailTactics
import Derived.Test.YtgbmmcnadmfikaaGreatDoorR12
import Derived.Test.YtgbmmcnadmfikaaGreatDoorR37
import Derived.Deep.RegionHeld3
import Derived.Deep.DeepCutAuto
namespace Go.Proofs.YtgbmmcnadmfikaaGreatDoor
def newP (who um i:Int):ProcL:=⟨who,um,i,true⟩
def comeK (k:KernL)(who um i:Int):KernL:=⟨setL k.l i (opnN (nodeL k.l i) 1),k.most,k.room,k.t,k.ps++ [newP who um i]⟩
theorem come_set {l:List NodeL}{i:Nat}(hik:(nd l i).kind≠0)(ho:0≤(nd l i).opn):setL l (i:Int) (opnN (nodeL l (i:Int)) 1)=openedL l (i:Int) 1:=by
 rw[opened_eq hik,setL_nat (nd_kind hik),nodeL_nd hik];unfold atN;rw[if_neg (by omega)]
theorem live_left {ps:List ProcL}(x:ProcL){q:Nat}(hq:q<ps.length):liveB (ps++ [x]) (q:Int)=liveB ps (q:Int)∧procL (ps++ [x]) (q:Int)=procL ps (q:Int):=by
 obtain⟨a1,a2⟩:=live_at hq;obtain⟨b1,b2⟩:=live_at (ps:=ps++ [x]) (a:=q) (by rw[List.length_append];omega);rw[a1,a2,b1,b2,List.getElem_append_left hq];exact⟨rfl,rfl⟩
theorem live_last (ps:List ProcL)(x:ProcL):liveB (ps++ [x]) (ps.length:Int)=x.live∧procL (ps++ [x]) (ps.length:Int)=x:=by
 obtain⟨b1,b2⟩:=live_at (ps:=ps++ [x]) (a:=ps.length) (by rw[List.length_append];exact Nat.lt_succ_self _);(have e:(ps++ [x])[ps.length]'(by rw[List.length_append];exact Nat.lt_succ_self _)=x:=by simp);rw[b1,b2,e];exact⟨rfl,rfl⟩
theorem live_off {ps:List ProcL}{q:Nat}(hq:ps.length≤q):liveB ps (q:Int)=false:=by
 unfold liveB;rw[decide_eq_false (show ¬(q:Int)<(ps.length:Int)by omega)];simp
theorem opensP_come (ps:List ProcL)(who um i j:Int):opensP (ps++ [newP who um i]) j=opensP ps j+if j=i then 1 else 0:=by
 unfold opensP;rw[List.countP_append];by_cases e:j=i
 · subst e
   simp[newP]
 · rw[if_neg e]
   simp[newP,Ne.symm e]
theorem right_come {k:KernL}(h:RigK k)(h8:k.ps.length<8){i:Nat}(hi:(nd k.l i).kind=2){who um:Int}(h0:0≤um)(h1:um≤63):RigK (comeK k who um (i:Int)):=by
 (have hik:(nd k.l i).kind≠0:=by rw[hi];decide);have ho:=h.opn i hik;have hl:(comeK k who um (i:Int)).l=openedL k.l (i:Int) 1:=come_set hik (by omega)
 obtain⟨w,hk⟩:=h.w.move (g:=opensN (comeK k who um (i:Int))) hik (b:=1) (fun j=>by
  have:=opensP_come k.ps who um (i:Int) j;unfold opensN;show((opensD k.t.ds j+opensP (k.ps++ [newP who um (i:Int)]) j:Nat):Int)=_;by_cases e:j=(i:Int)
  · rw[if_pos e]at this ⊢;omega
  · rw[if_neg e]at this ⊢;omega)
 rw[←hl]at w hk;refine rig_w w h.tab h.eight (by show(k.ps++ [newP who um (i:Int)]).length≤8;rw[List.length_append];exact h8) (fun p hp hq=> ?_) (fun p hq=> ?_)
 · rcases Nat.lt_trichotomy p k.ps.length with hlt | rfl | hgt
   · exact h.idle p hp ((live_left _ hlt).1.symm.trans hq)
   · have:=(live_last k.ps (newP who um (i:Int))).1.symm.trans hq
     cases this
   · exact h.idle p hp (live_off (by omega))
 · show(nodeL (comeK k who um (i:Int)).l (procL (k.ps++ [newP who um (i:Int)]) p).cwd).kind=2∧0≤(procL (k.ps++ [newP who um (i:Int)]) p).umask∧(procL (k.ps++ [newP who um (i:Int)]) p).umask≤63
   have hq':liveB (k.ps++ [newP who um (i:Int)]) (p:Int)=true:=hq;rcases Nat.lt_trichotomy p k.ps.length with hlt | rfl | hgt
   · obtain⟨e1,e2⟩:=live_left (newP who um (i:Int)) hlt
     rw[e1]at hq';obtain⟨c1,c2,c3⟩:=h.cwd p hq';obtain⟨o,ho,ho2,_⟩:=h.cwd_open hq';rw[e2];refine⟨?_,c2,c3⟩;rw[ho]at c1 ⊢
     have hok:=hk o (by rw[ho2];decide) (by
      have:=live_pos (k:=k) hq' (j:=(o:Int)) ho;have h2:=opensP_come k.ps who um (i:Int) (o:Int);unfold opensN;show 0<opensD k.t.ds _+opensP (k.ps++ [newP who um (i:Int)]) _
      omega)
     rw[nodeL_nd (by rw[hok,ho2];decide),hok,ho2]
   · rw[(live_last k.ps (newP who um (i:Int))).2]
     have hok:=hk i hik (by
      have h2:=opensP_come k.ps who um (i:Int) (i:Int);rw[if_pos rfl]at h2;unfold opensN;show 0<opensD k.t.ds _+opensP (k.ps++ [newP who um (i:Int)]) _
      omega)
     refine⟨?_,h0,h1⟩;show(nodeL (comeK k who um (i:Int)).l (i:Int)).kind=2;rw[nodeL_nd (by rw[hok];exact hik),hok];exact hi
   · rw[live_off (ps:=k.ps++ [newP who um (i:Int)]) (by rw[List.length_append];exact hgt)]at hq'
     cases hq'
theorem size_come {c:Nat}{k:KernL}(h:KrnS c k)(who um i:Int):KrnS c (comeK k who um i) :=
 ⟨h.1,h.2.1,h.2.2.1.set (n:=opnN (nodeL k.l i) 1) (h.2.2.1.node i) i,h.2.2.2⟩
end Go.Proofs.YtgbmmcnadmfikaaGreatDoor
namespace Go.Proofs.YtgbmmcnadmfikaaGreatDoor
open Go.RowKit Go.Shelf
open Go.WideShapes (add_plain)
attribute [local go_sem ↓] Go.wp_at_zero Go.wp_at_succ
theorem infoProcF:(Tryz.prog.info? 75).map (fun i=>(i.zero,i.size,i.bytes))=some (some (.agg #[.int .i64 0, .int .i64 0, .int .i64 0, .bool false]),4,32):=by kernel_rfl
def growRenP:Go.Shelf.Ren:=⟨fun | 4=>49 | n=>n,fun | 0=>0 | 3=>3 | 4=>4 | 9=>9 | 20=>20 | 22=>29 | 25=>75 | n=>n,fun | n=>n⟩
theorem growLaidP:Lays8.n4 Tryz.prog growRenP:= {
 mixed:=by kernel_rfl
 f4:=⟨ "slices.Grow[[]flagstone/kernel.Proc,flagstone/kernel.Proc]",by decide,Tryz.func49.trans (congrArg some (by kernel_rfl))⟩
 t0:=Tryz.underlying0
 a0:=Tryz.isAgg0
 z0:=Tryz.sizeOf0
 v0:=Tryz.zeroValue0
 t3:=Tryz.underlying3
 a3:=Tryz.isAgg3
 z3:=Tryz.sizeOf3
 v3:=Tryz.zeroValue3
 t4:=Tryz.underlying4
 a4:=Tryz.isAgg4
 z4:=Tryz.sizeOf4
 v4:=Tryz.zeroValue4
 t9:=Tryz.underlying9
 a9:=Tryz.isAgg9
 z9:=Tryz.sizeOf9
 v9:=Tryz.zeroValue9
 t20:=Tryz.underlying20
 a20:=Tryz.isAgg20
 z20:=Tryz.sizeOf20
 v20:=Tryz.zeroValue20
 t22:=Tryz.underlying29
 a22:=Tryz.isAgg29
 z22:=Tryz.sizeOf29
 v22:=Tryz.zeroValue29}
def GrowIsP (e:Ending)(W W':World):Prop:=∃v,e = .returned v∧W'.ownsRow W.heap.size 75 4 v 0 []∧Below W.heap.size W W'
theorem growP_any (n:Nat)(hn:n≤1000000)(w:World):Calls Tryz.prog 49 #[.slice none 0 0, .int .i64 n] w fun e w'=>GrowIsP e w w':=by
 obtain⟨i0,hi0,hz0,hz1,hz2⟩:=info_parts infoProcF;rcases Nat.eq_zero_or_pos n with rfl | hp
 · refine(Any8.slices_Grow_room growLaidP none 0 0 0 w (Nat.le_refl _) (by decide) (by decide) (by decide)).mono ?_
   rintro e w' ⟨rfl,rfl⟩;exact⟨_,rfl,⟨rfl, .inl ⟨rfl,rfl⟩⟩,Below.refl _ _⟩
 · refine(Any8.slices_Grow_grow growLaidP i0 _ hi0 hz0 (by omega) none 0 0 n [] w (Nat.le_refl _) (by omega) (by rw[hz2];omega) (by omega) (by simp) (fun _=>rfl) (fun a h=>by cases h)).mono ?_
   rintro e w' ⟨rfl,rfl⟩;have h1:=grownCap_ge w (0+n) 0 75;have h2:=grownCap_le_maxLen w (0+n) 0 75 (by unfold maxLen;omega);refine⟨_,rfl,⟨rfl, .inr ⟨w.heap.size,_,_,rfl,Nat.le_refl _,heap_alloc_new w.drew _,Nat.zero_le _,h2,?_,by simp⟩⟩,((Below.refl _ w).drew).alloc (Nat.le_refl _) _⟩;show(#[]++_++_:Array Value).size=grownCap w (0+n) 0 75*4;rw[Array.size_append,Array.size_append,size_zeroCells,size_zeroCells];show 0+(0+n-0)*4+(grownCap w (0+n) 0 75-(0+n))*4=_;omega
abbrev SrcP:=Value × List ProcL
def allP (S:List SrcP):List ProcL:=(S.map (·.2)).flatten
theorem allP_succ (S:List SrcP)(k:Nat)(h:k<S.length):allP (S.take (k+1))=allP (S.take k)++S[k].2:=by
 unfold allP;rw[List.take_succ_eq_append_getElem h,List.map_append,List.flatten_append];simp
theorem allP_len (S:List SrcP)(hs : ∀x∈S,x.2.length≤10001)(h3:S.length≤3)(k:Nat):(allP (S.take k)).length≤30003:=by
 have main : ∀S:List SrcP,(∀x∈S,x.2.length≤10001)→(allP S).length≤S.length*10001:=by
  intro S
  induction S with
  | nil=>intro _;exact Nat.le_refl _
  | cons a S ih =>
     intro h;(have h1:=ih fun x hx=>h x (by simp[hx]));have h2:=h a (by simp);(have:(allP (a::S)).length=a.2.length+(allP S).length:=by simp[allP]);rw[this,List.length_cons];omega
 (have h1:=main (S.take k) fun x hx=>hs x (List.mem_of_mem_take hx));(have h2:(S.take k).length≤3:=by rw[List.length_take];omega);omega
def SrcOkP (B b off:Nat)(S:List SrcP)(w:World):Prop:=∀k (h:k<S.length),w.cell? ⟨b,off+k,none⟩=some S[k].1∧Rd B 4 S[k].1 S[k].2.length (cellsP S[k].2) w
set_option maxRecDepth 100000 in
set_option maxHeartbeats 4000000 in
theorem concatP_any (b off cap:Nat)(S:List SrcP)(w:World)(hb:b<w.heap.size)(hS:SrcOkP w.heap.size b off S w)(hs : ∀x∈S,x.2.length≤10001)(h3:S.length≤3) :
 Calls Tryz.prog 22 #[.slice (some ⟨b,off,none⟩) S.length cap] w fun e w'=>∃v,e = .returned v∧w'.ownsRow w.heap.size 75 4 v (allP S).length (cellsP (allP S))∧Below w.heap.size w w':=by
 obtain⟨i0,hi0,hz0,hz1,hz2⟩:=info_parts infoProcF;have HS:=Lib.hid hS;have HL:=Lib.hid (allP_len S hs h3);clear hS hs;go_enter Tryz.func22,Tryz.ntmps22;go_wp2_with fail;go_loop [3,11] (fun z i=>∃k:Nat,i = .int .i64 k∧k≤S.length∧z = .int .i64 (allP (S.take k)).length) (fun _ i=>S.length-(intOf i).toNat)
 case atStart=>exact⟨0,rfl,Nat.zero_le _,rfl⟩
 case round =>
  obtain⟨k,rfl,hk,rfl⟩:=hrel;have hkl:=HL.out k;by_cases hlt:k<S.length
  · obtain⟨hc0,hr⟩:=HS.out k hlt
    have hl1:Hid ((allP (S.take (k+1))).length=(allP (S.take k)).length+S[k].2.length):=Lib.hid (by rw[allP_succ S k hlt,List.length_append]);have hkl1:=HL.out (k+1);rw[hl1.out]at hkl1;obtain⟨ao,cap',e,_,_⟩:=Rd.form hr;rw[e]at hc0;clear e hr;generalize (allP (S.take k)).length=z at *;generalize S[k].2.length=y at *;go_wp2_with fail;go_round
    case rel=>exact⟨k+1,by go_num,hlt,by rw[hl1.out];go_num⟩
    case measure=>simp[intOf];omega
  · have hke:k=S.length:=by omega
    have HT:Hid (S.take k=S):=Lib.hid (by rw[hke,List.take_length]);(have hI2:decide (k<S.length)=false:=by simp;omega);rw[HT.out]at hkl ⊢;clear hke hlt;go_wp2_with fail;refine(growP_any (allP S).length (by omega) _).mono ?_;rintro e w1 ⟨v,rfl,hown,hb1⟩;have HO:=Lib.hid hown;have HB:=Lib.hid hb1;clear hown hb1;go_wp2_with fail;go_loopw [6,27] (fun o i wr=>∃k:Nat,i = .int .i64 k∧k≤S.length∧wr.ownsRow w.heap.size 75 4 o (allP (S.take k)).length (cellsP (allP (S.take k)))∧Below w.heap.size w wr) (fun _ i _=>S.length-(intOf i).toNat)
    case atStart=>exact⟨0,rfl,Nat.zero_le _,HO.out,HB.out⟩
    case round =>
     obtain⟨k,rfl,hk,hown,hBr⟩:=hrel;have sB:=hBr.size;by_cases hlt:k<S.length
     · obtain⟨hc0,hr⟩:=HS.out k hlt
       have hc1:=(hBr.cell (p:=⟨b,off+k,none⟩) hb).trans hc0;have hl1:Hid ((allP (S.take (k+1))).length=(allP (S.take k)).length+S[k].2.length):=Lib.hid (by rw[allP_succ S k hlt,List.length_append]);have he1:Hid (cellsP (allP (S.take (k+1)))=cellsP (allP (S.take k))++cellsP S[k].2):=Lib.hid (by rw[allP_succ S k hlt,cellsP_app]);have hkl1:=HL.out (k+1);rw[hl1.out]at hkl1;have hr1:=Lib.hid (Rd.below hr hBr);have HO1:=Lib.hid (cellsP_one S[k].2);obtain⟨ao,cap',e,_,_⟩:=Rd.form hr;rw[e]at hc1 hr1;clear e hr hc0;generalize (allP (S.take k)).length=z at *;generalize S[k].2=y at *;go_wp2_with (at_builtin;go_loud (refine wpList_append_rd rfl (.tmp 31) (.tmp 32) 29 rfl w.heap.size 75 i0 _ 4 32 Tryz.underlying29 hi0 hz0 hz1 hz2 rfl (by decide) _ z _ rfl hown w.heap.size _ y.length (cellsP y) rfl hr1.out HO1.out (by unfold maxLen;omega) (by omega) sB ?_));intro v3 w3 ho3 hgr3;have hB3:Below w.heap.size w w3:=hBr.grown hgr3 sB (fun j ej=>(hown.lt j ej).1);rw[←he1.out,←hl1.out]at ho3;go_wp2_with fail;go_roundw
       case rel=>exact⟨k+1,by go_num,hlt,ho3,hB3⟩
       case measure=>simp[intOf];omega
     · have hke:k=S.length:=by omega
       have HT2:Hid (S.take k=S):=Lib.hid (by rw[hke,List.take_length]);(have hI2:decide (k<S.length)=false:=by simp;omega);rw[HT2.out]at hown;clear hke hlt;go_wp2_with fail;go_ret;exact⟨_,rfl,hown,hBr⟩
end Go.Proofs.YtgbmmcnadmfikaaGreatDoor
namespace Go.Proofs.YtgbmmcnadmfikaaGreatDoor
open Go.RowKit Go.Shelf
attribute [local go_sem ↓] Go.wp_at_zero Go.wp_at_succ
theorem heap_k3 {W:World}{b:Nat}{v0 v1 v2 v3 v4 v5 x0 x1 x2:Value}{t:TypeId}(h:W.heap[b]? = some (.cells #[v0,v1,v2,v3,v4,v5] t (0,0))):(W.setCells b 0 [x0,x1,x2]).heap[b]? = some (.cells #[x0,x1,x2,v3,v4,v5] t (0,0)):=by
 have h0:=heap_set (i:=0) (u:=x0) h;have h1:=heap_set (i:=1) (u:=x1) h0;have h2:=heap_set (i:=2) (u:=x2) h1;exact h2
theorem wpList_store_k3 {P:Program}{ops:Array Oper}{rest:List Oper}{op:Oper}{a:Act}{w:World}{Q:Exit→Act→World→Prop}(hgd:op.guard=none)(ty:TypeId)(x y:Operand)(ho:op.op = .store ty x y)
 (b:Nat) {v0 v1 v2 v3 v4 v5 x0 x1 x2:Value} {t:TypeId} (hx:a.eval x = .pointer (some ⟨b,0,none⟩)) (hy:a.eval y = .agg #[x0,x1,x2]) (hb:w.heap[b]? = some (.cells #[v0,v1,v2,v3,v4,v5] t (0,0)))
 (hi:(P.info? ty).map (·.size)=some 3) (o0:x0.oneCell'=true) (o1:x1.oneCell'=true) (o2:x2.oneCell'=true)
 (h : ∀W',Below b w W'→(∀g,g≠b→W'.heap[g]? = w.heap[g]?)→W'.heap.size=w.heap.size→W'.heap[b]? = some (.cells #[x0,x1,x2,v3,v4,v5] t (0,0))→wpList P ops Q rest (a.put op.dst undef) W'):wpList P ops Q (op::rest) a w:=by
  refine wpList_store_mid hgd ty x y ho b 0 #[x0,x1,x2] hx hy ?_ (by simpa using hi) ?_ ?_
  · intro j hj
    have hj':j<3:=hj;(have e : ∀i,w.frozen? ⟨b,i,none⟩=false:=fun i=>Lib.frozen_of_heap hb i);refine⟨?_,e _⟩;have hc:=cells6 hb
    match j,hj' with
    | 0,_=>rw[hc.1];rfl
    | 1,_=>rw[hc.2.1];rfl
    | 2,_=>rw[hc.2.2.1];rfl
  · exact all_oneCell_toArray (cs:= [x0,x1,x2]) fun v hv=>by
     simp only[List.mem_cons,List.not_mem_nil,or_false]at hv;rcases hv with rfl | rfl | rfl<;>assumption
  · exact h _ (below_setCells _ _ (Nat.le_refl _) _ _ _) (fun g hg=>heap_setCells _ _ hg _ _ _) (size_setCells _ _ _ _) (heap_k3 hb)
end Go.Proofs.YtgbmmcnadmfikaaGreatDoor
namespace Go.Proofs.YtgbmmcnadmfikaaGreatDoor
open Go.RowKit Go.Shelf
attribute [local go_sem ↓] Go.wp_at_zero Go.wp_at_succ
def SpawnIs (X:Nat→Prop)(k:KernL)(n er:Int)(e:Ending)(w w':World):Prop:=∃ao co ad cd af cf ap cp,e = .returned (.tuple #[.agg #[.slice ao k.l.length co, .int .i64 k.most, .int .i64 k.room, .slice ad k.t.ds.length cd, .slice af k.t.fs.length cf, .slice ap k.ps.length cp], .int .i64 n, .int .i64 er])∧DiskX k.l (.slice ao k.l.length co) X w'∧TabX k.t (.slice ad k.t.ds.length cd) (.slice af k.t.fs.length cf) X w'∧PsX k.ps (.slice ap k.ps.length cp) X w'∧Below w.heap.size w w'
theorem spawn_ret (w:World):Hid (∀(W:World) (cs:Array Value) (fr),W.heap[w.heap.size+1]? = some (.cells cs 31 fr)→cs.size=6→∀tmps:Array Value,tmps.getD 8 undef = .pointer (some ⟨w.heap.size+1,0,none⟩)→(results Tryz.f7 tmps).run Tryz.prog W = .ok (.tuple #[.agg cs,tmps.getD 9 undef,tmps.getD 10 undef]) W):=Lib.hid fun W cs fr h hs tmps ht =>
 results_ctt (p:=8) (u:=9) (v:=10) (ty:=31) rfl tmps W (w.heap.size+1) _ cs fr _ ht h Tryz.underlying31 rfl (by rw[hs];kernel_rfl)
set_option maxRecDepth 100000 in
set_option maxHeartbeats 4000000 in
theorem pspawn_no (X:Nat→Prop)(k:KernL)(ao ad af ap:Option Addr)(co cd cf cp:Nat)(who um i:Int)(w:World)(hX:Old X w)(hD:DiskX k.l (.slice ao k.l.length co) X w)(hT:TabX k.t (.slice ad k.t.ds.length cd) (.slice af k.t.fs.length cf) X w)(hP:PsX k.ps (.slice ap k.ps.length cp) X w)(h8:8≤k.ps.length) :
 Calls Tryz.prog 7 #[.agg #[.slice ao k.l.length co, .int .i64 k.most, .int .i64 k.room, .slice ad k.t.ds.length cd, .slice af k.t.fs.length cf, .slice ap k.ps.length cp], .int .i64 who, .int .i64 um, .int .i64 i] w fun e w'=>SpawnIs X k 0 13 e w w':=by
 have S0:=Lib.hid (Sf.start (G:= [DiskX k.l (.slice ao k.l.length co),TabX k.t (.slice ad k.t.ds.length cd) (.slice af k.t.fs.length cf),PsX k.ps (.slice ap k.ps.length cp)]) hX (th3 (DiskX.firm _ _) hD (TabX.firm _ _ _) hT (PsX.firm _ _) hP));have HRET:=spawn_ret w;have i8:decide ((8:Int)≤(k.ps.length:Int))=true:=decide_eq_true (by omega);have n8:decide (8≤k.ps.length)=true:=decide_eq_true h8;clear hX hD hT hP;go_enter Tryz.func7,Tryz.ntmps7;go_upto_region 1 with(fail);refine code_fresh2 ?_;intro W1 hb hA0 hA1 hs;have S1:=Lib.hid (S0.out.new2 hb hA0 hA1);clear hb hA0 hA1 hs;obtain⟨-, -, -, -, -,k5⟩:=cells6 (S1.out.at 0 rfl);go_upto_region 2 with(fail);have h_k:=(S1.out.at 0 rfl);have h_r:=(S1.out.at 1 rfl);go_wp2_with (first | (refine wpList_load_row rfl 31 _ rfl _ rfl 31 _ (0,0) _ h_k Tryz.underlying31 rfl (by kernel_rfl) ?_) | (refine wpList_store_row rfl 31 _ _ rfl _ rfl rfl h_r rfl (by kernel_rfl) rfl ?_;intro W2 hb hg hs hn;have S2:=Lib.hid (S1.out.set 1 rfl hb hg hs hn);clear hb hg hs hn));refine bodyPost_ret (HRET.out _ _ _ (S2.out.at 1 rfl) rfl _ rfl) rfl ?_;exact⟨ao,co,ad,cd,af,cf,ap,cp,rfl,S2.out.gX 0 rfl,S2.out.gX 1 rfl,S2.out.gX 2 rfl,S2.out.bel⟩
set_option maxRecDepth 100000 in
set_option maxHeartbeats 4000000 in
theorem pspawn_c (X:Nat→Prop)(k:KernL)(ao ad af ap:Option Addr)(co cd cf cp:Nat)(who um I:Int)(i:Nat)(w:World)(hX:Old X w)(hD:DiskX k.l (.slice ao k.l.length co) X w)(hT:TabX k.t (.slice ad k.t.ds.length cd) (.slice af k.t.fs.length cf) X w)(hP:PsX k.ps (.slice ap k.ps.length cp) X w)(hI:I=(i:Int))(h8:k.ps.length<8)(h0:0≤um)(h1:um≤63)(hi:(nd k.l i).kind=2)(hs:Small k.l)(ho:0≤(nd k.l i).opn)(ho2:(nd k.l i).opn≤100000) :
 Calls Tryz.prog 7 #[.agg #[.slice ao k.l.length co, .int .i64 k.most, .int .i64 k.room, .slice ad k.t.ds.length cd, .slice af k.t.fs.length cf, .slice ap k.ps.length cp], .int .i64 who, .int .i64 um, .int .i64 I] w fun e w'=>SpawnIs X (comeK k who um I) (k.ps.length:Int) 0 e w w':=by
 subst hI;have S0:=Lib.hid (Sf.start (G:= [DiskX k.l (.slice ao k.l.length co),TabX k.t (.slice ad k.t.ds.length cd) (.slice af k.t.fs.length cf),PsX k.ps (.slice ap k.ps.length cp)]) hX (th3 (DiskX.firm _ _) hD (TabX.firm _ _ _) hT (PsX.firm _ _) hP));have HRET:=spawn_ret w;have i8:decide ((8:Int)≤(k.ps.length:Int))=false:=decide_eq_false (by omega);have n8:decide (8≤k.ps.length)=false:=decide_eq_false (by omega);have u0:decide (um<0)=false:=decide_eq_false (by omega);have u1:decide (63<um)=false:=decide_eq_false (by omega);(have hik:(nd k.l i).kind≠0:=by rw[hi];decide);have HG:Hid (gotB k.l (i:Int)=true):=Lib.hid ((got_nd _ _).2 hik);have HND:Hid (nodeL k.l (i:Int)=nd k.l i):=Lib.hid (nodeL_nd hik);have HK:=Lib.hid hi;have HL:Hid (k.l.length≤10000):=Lib.hid (Nat.le_trans hs.1 (by decide));have HNL:=Lib.hid (names_small hs);have H8:=Lib.hid h8;have HO:Hid (0≤(nd k.l i).opn∧(nd k.l i).opn≤100000):=Lib.hid ⟨ho,ho2⟩
 have HNM:Hid ((nd k.l i).names.length≤10000):=Lib.hid (by
  have hlt:=nd_kind hik;rw[nd_in _ _ hlt]
  exact names_small hs _ (List.getElem_mem hlt))
 clear hX hD hT hP hs hik hi h8 h0 h1 ho ho2;go_enter Tryz.func7,Tryz.ntmps7;go_upto_region 1 with(fail);refine code_fresh2 ?_;intro W1 hb hA0 hA1 hs;have S1:=Lib.hid (S0.out.new2 hb hA0 hA1);clear hb hA0 hA1 hs;obtain⟨-, -, -, -, -,k5⟩:=cells6 (S1.out.at 0 rfl);go_upto_region 5 with(fail);clear k5;have h_d:=k_disk (S1.out.at 0 rfl);go_wp2_with (first | (refine wpList_load_mid rfl 24 _ rfl _ 0 rfl _ _ h_d Tryz.underlying24 rfl (by kernel_rfl) ?_));refine(get_g _ k.l k.most k.room (i:Int) _ W1 S1.out.oldX (S1.out.g 0 rfl) HL.out HNL.out).mono ?_;rintro e W2 ⟨aon,cpn,rfl,hn,hb⟩;clear h_d;have S2:=Lib.hid ((S1.out.call hb).more (NodeTh.firm _ _) hn);rw[HND.out]at S2 ⊢;rw[HG.out];obtain⟨n,hnn⟩ : ∃n,n=nd k.l i:=⟨_,rfl⟩;rw[←hnn]at S2 HO HK HND HNM ⊢;clear hnn hb hn;go_upto_region 6 with(first | (refine wpList_fresh1 ?_;intro W3 hb hn hs;have S3:=Lib.hid (S2.out.new1 hb hn);have h_n:=S3.out.at 2 rfl;clear hb hn hs) | (refine wpList_store_row rfl 78 _ _ rfl _ rfl rfl h_n rfl (by kernel_rfl) rfl ?_;intro W4 hb hg hs hn;have S4:=Lib.hid (S3.out.set 2 rfl hb hg hs hn);clear hb hg hs hn));clear h_n;obtain⟨bn,hbn⟩ : ∃bn,bn=W2.heap.size:=⟨_,rfl⟩;rw[←hbn]at S4 ⊢;clear hbn;obtain⟨n0, -, -, -,n4, -, -, -⟩:=cells8 (S4.out.at 2 rfl);rw[HK.out]at n0;have fn:=fun j=>Lib.frozen_of_heap (S4.out.at 2 rfl) j
 have w1:IntKind.i64.wrap (n.opn+1)=n.opn+1:=by
  have:=HO.out;exact Go.IntWalk.i64_in _ ⟨by omega,by omega⟩
 go_upto_region 11 with(fail);clear n0 n4 fn w1;refine code_set1 (S4.out.at 2 rfl) ?_;intro W5 hb hg hs hn;have S5:=Lib.hid (S4.out.set 2 rfl hb hg hs hn);clear hb hg hs hn;have HCK:Hid (comeK k who um (i:Int)=⟨setL k.l (i:Int) (opnN n 1),k.most,k.room,k.t,k.ps++ [newP who um (i:Int)]⟩):=Lib.hid (by unfold comeK;rw[HND.out]);have h_d:=k_disk (S5.out.at 0 rfl);have h_n:=(S5.out.at 2 rfl);go_wp2_with (first | (refine wpList_load_mid rfl 24 _ rfl _ 0 rfl _ _ h_d Tryz.underlying24 rfl (by kernel_rfl) ?_) | (refine wpList_load_row rfl 78 _ rfl _ rfl 78 _ (0,0) _ h_n Tryz.underlying78 rfl (by kernel_rfl) ?_));refine(set_g _ k.l k.most k.room (i:Int) (opnN n 1) _ (.slice aon n.names.length cpn) W5 S5.out.oldX (S5.out.g 0 rfl) HL.out ((S5.out.g 3 rfl:NodeX _ n _ _).same (m:=opnN n 1) rfl) HNM.out).mono ?_;rintro e W6 ⟨ao2,co2,rfl,hg2,hb⟩;have S6:=Lib.hid ((S5.out.call hb).more (DiskX.firm _ _) hg2);clear hb hg2 h_d h_n;have h_k:=(S6.out.at 0 rfl);go_upto_region 12 with(first | (refine wpList_store_k3 rfl 24 _ _ rfl _ rfl rfl h_k (by kernel_rfl) rfl rfl rfl ?_;intro W7 hb hg hs hn;have S7:=Lib.hid (S6.out.set 0 rfl hb hg hs hn);clear hb hg hs hn));clear h_k;obtain⟨-, -, -, -, -,k5⟩:=cells6 (S7.out.at 0 rfl);go_wp2_with fail;clear k5;refine fresh2 (P:=fun W=>Calls _ _ _ W _) ?_;intro W8 hb hA hB hs8;have S8:=Lib.hid (S7.out.new2 hb hA hB);clear hb
 have hcon:=concatP_any (W7.heap.size+1) 0 2 [(.slice ap k.ps.length cp,k.ps),(.slice (some ⟨W7.heap.size,0,none⟩) 1 1,[newP who um (i:Int)])] W8 (by omega)
  (by
    intro j hj;(have hj2:j=0∨j=1:=by simp at hj;omega);rcases hj2 with rfl | rfl
    · exact⟨by rw[Lib.cell_of_heap hB];rfl,(S8.out.g 2 rfl:PsX _ _ _ _).1⟩
    · exact⟨by rw[Lib.cell_of_heap hB];rfl,(ps_one (X:=fun _=>False) (x:=newP who um (i:Int)) hA (fun q hq=>hq.elim)).1⟩)
  (by
    intro x hx;simp only[List.mem_cons,List.not_mem_nil,or_false]at hx;rcases hx with rfl | rfl
    · have:=H8.out;show k.ps.length≤10001;omega
    · simp)
  (by simp)
 (have hall:allP [((Value.slice ap k.ps.length cp,k.ps):SrcP),(.slice (some ⟨W7.heap.size,0,none⟩) 1 1,[newP who um (i:Int)])]=k.ps++ [newP who um (i:Int)]:=by simp[allP]);rw[hall]at hcon;refine hcon.mono ?_;clear hcon hall hA hB hs8;rintro e W9 ⟨v9,rfl,ho9,hb9⟩;obtain⟨ap9,cp9,rfl⟩:=own_form ho9;have S9:=Lib.hid ((S8.out.call hb9).more (PsX.firm (k.ps++ [newP who um (i:Int)]) _) (RdX.own ho9 S8.out.oldX));clear ho9 hb9;obtain⟨-, -, -, -, -,k5⟩:=cells6 (S9.out.at 0 rfl);(have fk:=fun j=>Lib.frozen_of_heap (S9.out.at 0 rfl) j);go_upto_region 14 with(fail);clear k5 fk;refine code_set1 (S9.out.at 0 rfl) ?_;intro W10 hb hg hs hn;have S10:=Lib.hid (S9.out.set 0 rfl hb hg hs hn);clear hb hg hs hn;have h_k:=(S10.out.at 0 rfl);have h_r:=(S10.out.at 1 rfl);go_wp2_with (first | (refine wpList_load_row rfl 31 _ rfl _ rfl 31 _ (0,0) _ h_k Tryz.underlying31 rfl (by kernel_rfl) ?_) | (refine wpList_store_row rfl 31 _ _ rfl _ rfl rfl h_r rfl (by kernel_rfl) rfl ?_;intro W11 hb hg hs hn;have S11:=Lib.hid (S10.out.set 1 rfl hb hg hs hn);clear hb hg hs hn));refine bodyPost_ret (HRET.out _ _ _ (S11.out.at 1 rfl) rfl _ rfl) rfl ?_;rw[HCK.out];have hlen:(k.ps++ [newP who um (i:Int)]).length=k.ps.length+1:=by rw[List.length_append];rfl
 exact⟨ao2,co2,ad,cd,af,cf,ap9,cp9,(by
  show _=Ending.returned (.tuple #[.agg #[.slice ao2 (setL k.l (i:Int) (opnN n 1)).length co2, .int .i64 k.most, .int .i64 k.room, .slice ad k.t.ds.length cd, .slice af k.t.fs.length cf, .slice ap9 (k.ps++ [newP who um (i:Int)]).length cp9], .int .i64 k.ps.length, .int .i64 0]);rw[hlen]
  rfl),S11.out.gX 4 rfl,S11.out.gX 1 rfl,S11.out.gX 5 rfl,S11.out.bel⟩
end Go.Proofs.YtgbmmcnadmfikaaGreatDoor
