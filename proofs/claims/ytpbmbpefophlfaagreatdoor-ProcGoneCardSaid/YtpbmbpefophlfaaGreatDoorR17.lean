import Derived.Test.YtpbmbpefophlfaaGreatDoorR16
import Derived.Test.YtpbmbpefophlfaaGreatDoorR15
import Derived.Test.YtpbmbpefophlfaaGreatDoorR13
import Derived.Deep.DeepCutAuto
import Derived.Test.YtpbmbpefophlfaaGreatDoorR11
import Derived.Test.YtpbmbpefophlfaaGreatDoorProg
import Derived.LaidEql
import Derived.Stop.Asserts
import Derived.RowKitTokens
import Derived.Test.YtpbmbpefophlfaaGreatDoorR12
import Derived.Lib.QuietBelow
import Derived.Deep.DrawnRows
import Derived.Laws.Cover1
import Derived.WalkMore
import Derived.Shelf.Spec.SlicesGrow
import Derived.StillTailTactics
import Derived.Deep.RegionHeld3
import Derived.Deep.RegionLaw
import Derived.Handy
import Derived.Deep.LoopGhost
import Derived.BigQuiet
namespace Go.Proofs.YtpbmbpefophlfaaGreatDoor
open Go.RowKit Go.Shelf
attribute [local go_sem ↓] Go.wp_at_zero Go.wp_at_succ
set_option maxRecDepth 100000 in
set_option maxHeartbeats 2000000 in
theorem rget_any (v:Value)(ms:List NodeM)(most room i:Int)(w:World)(hv:RdM w.heap.size v ms w)(hl:ms.length≤10000) :
 Calls Tryz.prog 30 #[.agg #[v, .int .i64 most, .int .i64 room], .int .i64 i] w fun e w'=>GetIs (pl ms) i e w w':=by
 obtain⟨ao,cap,rfl,_,_⟩:=rdm_form hv;have HV:=Lib.hid hv;have HL:=Lib.hid hl;clear hv
 have hret : ∀(W:World) (cs:Array Value) (fr),W.heap[w.heap.size+1]? = some (.cells cs 99 fr)→cs.size=8→∀tmps:Array Value,tmps.getD 4 undef = .pointer (some ⟨w.heap.size+1,0,none⟩)→(results Tryz.f30 tmps).run Tryz.prog W = .ok (.tuple #[.agg cs,tmps.getD 5 undef]) W:=fun W cs fr h hs tmps ht =>
  results_ct (p:=4) (u:=5) (ty:=99) rfl tmps W (w.heap.size+1) _ cs fr _ ht h Tryz.underlying99 rfl (by rw[hs];kernel_rfl)
 (have no : ∀W:World,gotB (pl ms) i=false→Below w.heap.size w W→GetIs (pl ms) i (.returned (.tuple #[.agg #[.int .i64 0, .int .i64 0, .int .i64 0, .int .i64 0, .int .i64 0, .int .i64 0, .string ⟨#[]⟩, .slice none 0 0], .bool false])) w W:=fun _ h hb=>get_no h hb);have HNO:=Lib.hid no;clear no;by_cases h1:i<0
 · have hI:decide (i<0)=true:=by simpa using h1
   have HG:Hid (gotB (pl ms) i=false):=Lib.hid (by unfold gotB inL;rw[show decide (0≤i)=false by simp;omega];rfl);clear h1;go_enter Tryz.func30,Tryz.ntmps30;go_wp2_with fail;refine fresh2 (P:=fun W=>bodyPost _ _ _ _ _ W) ?_;intro W0 hb0 hP hQ hs0;refine bodyPost_ret (hret _ _ _ hQ rfl _ rfl) rfl ?_;exact HNO.out _ HG.out hb0
 (have g1:decide (i<0)=false:=by simpa using h1);by_cases h2:(ms.length:Int)≤i
 · have hI:decide ((ms.length:Int)≤i)=true:=by simpa using h2
   have HG:Hid (gotB (pl ms) i=false):=Lib.hid (by unfold gotB inL;rw[show decide (i<(pl ms).length)=false by rw[pl_len];simpa using h2];simp);clear h1 h2;go_enter Tryz.func30,Tryz.ntmps30;go_wp2_with fail;refine fresh2 (P:=fun W=>bodyPost _ _ _ _ _ W) ?_;intro W0 hb0 hP hQ hs0;refine bodyPost_ret (hret _ _ _ hQ rfl _ rfl) rfl ?_;exact HNO.out _ HG.out hb0
 (have g2:decide ((ms.length:Int)≤i)=false:=by simpa using h2);obtain⟨k,rfl,hk⟩ : ∃k:Nat,i=k∧k<ms.length:=⟨i.toNat,by omega,by omega⟩;have hin:=nat_in (l:=pl ms) (k:=k) (by rw[pl_len];exact hk);have hat:=at_nat (pl ms) k (by rw[pl_len];exact hk);(have k0:(0:Int)≤(k:Int):=by omega);(have k1:(k:Int)<(ms.length:Int):=by omega);obtain⟨b,off,n,aon,capn,rfl,hb,hn, -,hrn,c0,c1,c2,c3,c4,c5,c6,c7⟩:=node_at HV.out k hk;rw[hn]at hat;by_cases h0:n.kind=0
 · have hd:(n.kind == 0)=true:=by simpa using h0
   have HG:Hid (gotB (pl ms) k=false):=Lib.hid (by unfold gotB;rw[hat];simp[h0]);clear h0 h1 h2 hin hat hn hrn;go_enter Tryz.func30,Tryz.ntmps30;go_wp2_with fail;refine fresh2 (P:=fun W=>bodyPost _ _ _ _ _ W) ?_;intro W0 hb0 hP hQ hs0;refine bodyPost_ret (hret _ _ _ hQ rfl _ rfl) rfl ?_;exact HNO.out _ HG.out hb0
 · have hd:(n.kind == 0)=false:=by simpa using h0
   have HG:Hid (gotB (pl ms) k=true):=Lib.hid (by unfold gotB;rw[hat,hin];simp[h0]);have HGe:Hid (getL (pl ms) k=n):=Lib.hid (by unfold getL;rw[HG.out,hat];rfl);have HR:=Lib.hid hrn;clear h0 h1 h2 hin hat hn hrn;go_enter Tryz.func30,Tryz.ntmps30;go_wp2_with fail;refine fresh2 (P:=fun W=>bodyPost _ _ _ _ _ W) ?_;intro W0 hb0 hP hQ hs0;refine bodyPost_ret (hret _ _ _ hQ rfl _ rfl) rfl ?_;exact⟨.slice aon n.names.length capn,by rw[HGe.out,HG.out];rfl,by rw[HGe.out];exact rd_keep HR.out hb0,hb0⟩
def NamesIs (l:List NodeL)(i:Int)(e:Ending)(W W':World):Prop:=e = .returned (.tuple #[.int .i64 ((nmL l i (0, -1)).1:Int), .int .i64 (nmL l i (0, -1)).2])∧Below W.heap.size W W'
set_option maxRecDepth 100000 in
set_option maxHeartbeats 2000000 in
theorem names_any (v:Value)(ms:List NodeM)(most room i:Int)(w:World)(hv:RdM w.heap.size v ms w)(hsm:Small (pl ms)) :
 Calls Tryz.prog 99 #[.agg #[v, .int .i64 most, .int .i64 room], .int .i64 i] w fun e w'=>NamesIs (pl ms) i e w w':=by
 (have hl:ms.length≤110:=by have:=hsm.1;rwa [pl_len]at this);obtain⟨ao,cap,rfl,_,_⟩:=rdm_form hv;have hb0:Below w.heap.size w (w.alloc (.cells #[.slice ao ms.length cap, .int .i64 most, .int .i64 room] 42)):=(Below.refl _ w).alloc (Nat.le_refl _) _;have HV:=Lib.hid (hv.below hb0);have HS:=Lib.hid hsm;clear hv hsm;go_enter Tryz.func99,Tryz.ntmps99;go_wp2_with fail;go_loop [6,7,8] (fun c d i'=>∃k:Nat,i' = .int .i64 k∧k≤ms.length∧c = .int .i64 ((nmTo (pl ms) i (0, -1) k).1:Int)∧d = .int .i64 (nmTo (pl ms) i (0, -1) k).2) (fun _ _ i'=>ms.length-(intOf i').toNat)
 case atStart=>exact⟨0,rfl,Nat.zero_le _,rfl,rfl⟩
 case round =>
  obtain⟨k,rfl,hk,rfl,rfl⟩:=hrel;by_cases hlt:k<ms.length
  · obtain⟨b,off,n,aon,capn,rfl,hb,hn, -,hrn,c0,c1,c2,c3,c4,c5,c6,c7⟩:=node_at HV.out k hlt
    have hsucc:Hid (nmTo (pl ms) i (0, -1) (k+1)=foldN i k (nmTo (pl ms) i (0, -1) k) n.names):=Lib.hid (by
     show foldN i k _ ((pl ms).getD k zeroN).names=_;rw[List.getD_eq_getElem?_getD,List.getElem?_eq_getElem (by rw[pl_len];exact hlt),hn]
     rfl)
    have hle:=nm_le HS.out i (0, -1) k;have hnl:n.names.length≤130:=(HS.out.2 n (by rw[←hn];exact List.getElem_mem _)).2;have HR:=Lib.hid hrn;clear hn hrn;generalize nmTo (pl ms) i (0, -1) k=s at *;(have hle2:s.1≤15000:=by simp at hle;omega);clear hle;go_wp2_with fail;go_loop [6,7,9] (fun c d j'=>∃j:Nat,j' = .int .i64 j∧j≤n.names.length∧c = .int .i64 ((foldN i k s (n.names.take j)).1:Int)∧d = .int .i64 (foldN i k s (n.names.take j)).2) (fun _ _ j'=>n.names.length-(intOf j').toNat)
    case atStart=>exact⟨0,rfl,Nat.zero_le _,rfl,rfl⟩
    case round =>
     obtain⟨j,rfl,hj,rfl,rfl⟩:=hrel;by_cases hlj:j<n.names.length
     · obtain⟨b2,off2,cap2,e,_,_,_,_,hc⟩:=HR.out.at (by omega)
       injection e with e1 _ e2;subst e1;subst e2;have d1:World.cell? _ ⟨b2,off2+j*2+1,none⟩=_:=hc (j*2+1) _ (ents_at1 n.names j hlj);have hst:=foldN_succ i k s n.names j hlj;have hfl:=fold_le i k (n.names.take j) s;rw[List.length_take]at hfl;generalize n.names[j]=f at *;generalize foldN i k s (n.names.take j)=t at *;obtain⟨fx,fz⟩:=f;by_cases hz:fz=i
       · have hI:(fz == i)=true:=by simpa using hz
         (have hst2:foldN i k s (n.names.take (j+1))=(t.1+1,(k:Int)):=by rw[hst];unfold stepN;rw[if_pos hz]);have HST:=Lib.hid hst2;(have ht1:t.1≤16000:=by omega);clear hz hst hst2 hc hfl;go_wp2_with fail;go_round
         case rel=>exact⟨j+1,by go_num,hlj,by rw[HST.out];go_num,by rw[HST.out]⟩
         case measure=>simp[intOf];omega
       · have hI:(fz == i)=false:=by simpa using hz
         (have hst2:foldN i k s (n.names.take (j+1))=t:=by rw[hst];unfold stepN;rw[if_neg hz]);have HST:=Lib.hid hst2;clear hz hst hst2 hc hfl;go_wp2_with fail;go_round
         case rel=>exact⟨j+1,by go_num,hlj,by rw[HST.out],by rw[HST.out]⟩
         case measure=>simp[intOf];omega
     · have hje:j=n.names.length:=by omega
       have HT:Hid (foldN i k s (n.names.take j)=nmTo (pl ms) i (0, -1) (k+1)):=Lib.hid (by rw[hje,List.take_length,hsucc.out]);(have hI2:decide (j<n.names.length)=false:=by simp;omega);clear hje hlj;go_wp2_with fail;go_round
       case rel=>exact⟨k+1,by go_num,hlt,by rw[HT.out],by rw[HT.out]⟩
       case measure=>simp[intOf];omega
  · have hke:k=ms.length:=by omega
    have HT:Hid (nmTo (pl ms) i (0, -1) k=nmL (pl ms) i (0, -1)):=Lib.hid (by rw[hke];unfold nmL;rw[pl_len]);(have hI2:decide (k<ms.length)=false:=by simp;omega);clear hke hlt;rw[HT.out];go_wp2_with fail;go_ret2;exact⟨rfl,hb0⟩
end Go.Proofs.YtpbmbpefophlfaaGreatDoor
namespace Go.Proofs.YtpbmbpefophlfaaGreatDoor
open Go.RowKit Go.Shelf
attribute [local go_sem ↓] Go.wp_at_zero Go.wp_at_succ
theorem code_fresh2 {P:Program}{a:Act}{w:World}{A B:Obj}{c:Code}{K:Exit→Act→World→Prop}(h : ∀W,Below w.heap.size w W→W.heap[w.heap.size]? = some A→W.heap[w.heap.size+1]? = some B→W.heap.size=w.heap.size+2→c.wp P K a W):c.wp P K a ((w.alloc A).alloc B):=fresh2 (P:=fun W=>c.wp P K a W) h
theorem code_fresh3 {P:Program}{a:Act}{w:World}{A B C:Obj}{c:Code}{K:Exit→Act→World→Prop}(h : ∀W,Below w.heap.size w W→W.heap[w.heap.size]? = some A→W.heap[w.heap.size+1]? = some B→W.heap[w.heap.size+2]? = some C→W.heap.size=w.heap.size+3→c.wp P K a W):c.wp P K a (((w.alloc A).alloc B).alloc C):=fresh3 (P:=fun W=>c.wp P K a W) h
def GivesX (X:Nat→Prop)(l:List NodeL)(v:Value)(W:World):Prop:=∃ms,pl ms=l∧RdM W.heap.size v ms W∧∀g,X g→AvoidM g v ms
def NodeX (X:Nat→Prop)(n:NodeL)(vn:Value)(W:World):Prop:=RdNm W.heap.size (n,vn) W∧∀g,X g→Avoid g vn
def Old (X:Nat→Prop)(W:World):Prop:=∀g,X g→g<W.heap.size
theorem GivesX.gives {X:Nat→Prop}{l:List NodeL}{v:Value}{W:World}(h:GivesX X l v W):GivesN l v W:=by
 obtain⟨ms,a,b,_⟩:=h;exact⟨ms,a,b⟩
theorem GivesX.keep {X:Nat→Prop}{l:List NodeL}{v:Value}{W W':World}(h:GivesX X l v W)(hb:Below W.heap.size W W'):GivesX X l v W':=by
 obtain⟨ms,a,b,c⟩:=h;exact⟨ms,a,rdm_keep b hb,c⟩
theorem GivesX.sub {X Y:Nat→Prop}{l:List NodeL}{v:Value}{W:World}(h:GivesX X l v W)(hs : ∀g,Y g→X g):GivesX Y l v W:=by
 obtain⟨ms,a,b,c⟩:=h;exact⟨ms,a,b,fun g hg=>c g (hs g hg)⟩
theorem GivesX.add {X Y:Nat→Prop}{l:List NodeL}{v:Value}{W W':World}(h:GivesX X l v W)(hb:Below W.heap.size W W')(hY : ∀g,Y g→X g∨W.heap.size≤g):GivesX Y l v W':=by
 obtain⟨ms,a,b,c⟩:=h;refine⟨ms,a,rdm_keep b hb,fun g hg=> ?_⟩;rcases hY g hg with h1 | h1
 · exact c g h1
 · exact⟨rd_far b.1 h1,fun x hx=>rd_far (b.2 x hx) h1⟩
theorem GivesX.other {X:Nat→Prop}{l:List NodeL}{v:Value}{b:Nat}{W W':World}(h:GivesX X l v W)(hX:X b)(hs:W'.heap.size=W.heap.size)(hg : ∀g,g≠b→W'.heap[g]? = W.heap[g]?):GivesX X l v W':=by
 obtain⟨ms,a,h1,c⟩:=h;refine⟨ms,a,?_,c⟩;rw[hs];exact rdm_other h1 (c b hX).1 (fun x hx=>(c b hX).2 x hx) hg
theorem NodeX.keep {X:Nat→Prop}{n:NodeL}{vn:Value}{W W':World}(h:NodeX X n vn W)(hb:Below W.heap.size W W'):NodeX X n vn W':=⟨rdnm_keep h.1 hb,h.2⟩
theorem NodeX.sub {X Y:Nat→Prop}{n:NodeL}{vn:Value}{W:World}(h:NodeX X n vn W)(hs : ∀g,Y g→X g):NodeX Y n vn W:=⟨h.1,fun g hg=>h.2 g (hs g hg)⟩
theorem NodeX.add {X Y:Nat→Prop}{n:NodeL}{vn:Value}{W W':World}(h:NodeX X n vn W)(hb:Below W.heap.size W W')(hY : ∀g,Y g→X g∨W.heap.size≤g):NodeX Y n vn W' :=
 ⟨rdnm_keep h.1 hb,fun g hg=>(hY g hg).elim (h.2 g) fun h1=>rd_far h.1 h1⟩
theorem NodeX.other {X:Nat→Prop}{n:NodeL}{vn:Value}{b:Nat}{W W':World}(h:NodeX X n vn W)(hX:X b)(hs:W'.heap.size=W.heap.size)(hg : ∀g,g≠b→W'.heap[g]? = W.heap[g]?):NodeX X n vn W':=by
 refine⟨?_,h.2⟩;rw[hs];exact rd_other h.1 (h.2 b hX) hg
theorem NodeX.zero (X:Nat→Prop)(W:World):NodeX X zeroN (.slice none 0 0) W:=⟨Rd.none0 _ _ _,fun g _ a n c e _=>by cases e⟩
theorem NodeX.same {X:Nat→Prop}{n m:NodeL}{vn:Value}{W:World}(h:NodeX X n vn W)(e:m.names=n.names):NodeX X m vn W:=by
 refine⟨?_,h.2⟩;have h1:=h.1;unfold RdNm at h1 ⊢;rw[e];exact h1
theorem Old.keep {X:Nat→Prop}{W W':World}(h:Old X W)(hb:W.heap.size≤W'.heap.size):Old X W':=fun g hg=>Nat.lt_of_lt_of_le (h g hg) hb
theorem gives_form {X:Nat→Prop}{l:List NodeL}{v:Value}{W:World}(h:GivesX X l v W) : ∃ao cap,v = .slice ao l.length cap:=by
 obtain⟨ms,rfl,hv,_⟩:=h;obtain⟨ao,cap,e,_,_⟩:=rdm_form hv;exact⟨ao,cap,by rw[pl_len];exact e⟩
theorem node_form {X:Nat→Prop}{n:NodeL}{v:Value}{W:World}(h:NodeX X n v W) : ∃ao cap,v = .slice ao n.names.length cap:=by
 obtain⟨ao,cap,e,_,_⟩:=Rd.form h.1;exact⟨ao,cap,e⟩
def RDiskIs (X:Nat→Prop)(l:List NodeL)(most room:Int)(e:Ending)(w w':World):Prop :=
 ∃ao cap,e = .returned (.agg #[.slice ao l.length cap, .int .i64 most, .int .i64 room])∧GivesX X l (.slice ao l.length cap) w'∧Below w.heap.size w w'
def RGetX (v:Value)(ms:List NodeM)(i:Int)(e:Ending)(W W':World):Prop :=
 ∃vn,e = .returned (.tuple #[nval (getL (pl ms) i) vn, .bool (gotB (pl ms) i)])∧RdNm W'.heap.size (getL (pl ms) i,vn) W'∧Below W.heap.size W W'∧∀g,AvoidM g v ms→Avoid g vn
theorem getx_no {v:Value}{ms:List NodeM}{i:Int}{w W:World}(h:gotB (pl ms) i=false)(hb:Below w.heap.size w W):RGetX v ms i (.returned (.tuple #[.agg #[.int .i64 0, .int .i64 0, .int .i64 0, .int .i64 0, .int .i64 0, .int .i64 0, .string ⟨#[]⟩, .slice none 0 0], .bool false])) w W :=
 ⟨.slice none 0 0,by unfold getL;rw[h];rfl,by unfold getL;rw[h];exact Rd.none0 _ _ _,hb,fun g _ a n c e _=>by cases e⟩
set_option maxRecDepth 100000 in
set_option maxHeartbeats 2000000 in
theorem rgetx_any (v:Value)(ms:List NodeM)(most room i:Int)(w:World)(hv:RdM w.heap.size v ms w)(hl:ms.length≤10000) :
 Calls Tryz.prog 30 #[.agg #[v, .int .i64 most, .int .i64 room], .int .i64 i] w fun e w'=>RGetX v ms i e w w':=by
 obtain⟨ao,cap,rfl,_,_⟩:=rdm_form hv;have HV:=Lib.hid hv;have HL:=Lib.hid hl;clear hv
 have hret : ∀(W:World) (cs:Array Value) (fr),W.heap[w.heap.size+1]? = some (.cells cs 99 fr)→cs.size=8→∀tmps:Array Value,tmps.getD 4 undef = .pointer (some ⟨w.heap.size+1,0,none⟩)→(results Tryz.f30 tmps).run Tryz.prog W = .ok (.tuple #[.agg cs,tmps.getD 5 undef]) W:=fun W cs fr h hs tmps ht =>
  results_ct (p:=4) (u:=5) (ty:=99) rfl tmps W (w.heap.size+1) _ cs fr _ ht h Tryz.underlying99 rfl (by rw[hs];kernel_rfl)
 (have no : ∀W:World,gotB (pl ms) i=false→Below w.heap.size w W→RGetX (.slice ao ms.length cap) ms i (.returned (.tuple #[.agg #[.int .i64 0, .int .i64 0, .int .i64 0, .int .i64 0, .int .i64 0, .int .i64 0, .string ⟨#[]⟩, .slice none 0 0], .bool false])) w W:=fun _ h hb=>getx_no h hb);have HNO:=Lib.hid no;clear no;by_cases h1:i<0
 · have hI:decide (i<0)=true:=by simpa using h1
   have HG:Hid (gotB (pl ms) i=false):=Lib.hid (by unfold gotB inL;rw[show decide (0≤i)=false by simp;omega];rfl);clear h1;go_enter Tryz.func30,Tryz.ntmps30;go_wp2_with fail;refine fresh2 (P:=fun W=>bodyPost _ _ _ _ _ W) ?_;intro W0 hb0 hP hQ hs0;refine bodyPost_ret (hret _ _ _ hQ rfl _ rfl) rfl ?_;exact HNO.out _ HG.out hb0
 (have g1:decide (i<0)=false:=by simpa using h1);by_cases h2:(ms.length:Int)≤i
 · have hI:decide ((ms.length:Int)≤i)=true:=by simpa using h2
   have HG:Hid (gotB (pl ms) i=false):=Lib.hid (by unfold gotB inL;rw[show decide (i<(pl ms).length)=false by rw[pl_len];simpa using h2];simp);clear h1 h2;go_enter Tryz.func30,Tryz.ntmps30;go_wp2_with fail;refine fresh2 (P:=fun W=>bodyPost _ _ _ _ _ W) ?_;intro W0 hb0 hP hQ hs0;refine bodyPost_ret (hret _ _ _ hQ rfl _ rfl) rfl ?_;exact HNO.out _ HG.out hb0
 (have g2:decide ((ms.length:Int)≤i)=false:=by simpa using h2);obtain⟨k,rfl,hk⟩ : ∃k:Nat,i=k∧k<ms.length:=⟨i.toNat,by omega,by omega⟩;have hin:=nat_in (l:=pl ms) (k:=k) (by rw[pl_len];exact hk);have hat:=at_nat (pl ms) k (by rw[pl_len];exact hk);(have k0:(0:Int)≤(k:Int):=by omega);(have k1:(k:Int)<(ms.length:Int):=by omega);obtain⟨b,off,n,aon,capn,rfl,hb,hn,hmk,hrn,c0,c1,c2,c3,c4,c5,c6,c7⟩:=node_at HV.out k hk;rw[hn]at hat;by_cases h0:n.kind=0
 · have hd:(n.kind == 0)=true:=by simpa using h0
   have HG:Hid (gotB (pl ms) k=false):=Lib.hid (by unfold gotB;rw[hat];simp[h0]);clear h0 h1 h2 hin hat hn hrn;(try clear hmk);go_enter Tryz.func30,Tryz.ntmps30;go_wp2_with fail;refine fresh2 (P:=fun W=>bodyPost _ _ _ _ _ W) ?_;intro W0 hb0 hP hQ hs0;refine bodyPost_ret (hret _ _ _ hQ rfl _ rfl) rfl ?_;exact HNO.out _ HG.out hb0
 · have hd:(n.kind == 0)=false:=by simpa using h0
   have HG:Hid (gotB (pl ms) k=true):=Lib.hid (by unfold gotB;rw[hat,hin];simp[h0]);have HGe:Hid (getL (pl ms) k=n):=Lib.hid (by unfold getL;rw[HG.out,hat];rfl);have HR:=Lib.hid hrn;(have HA:Hid (∀g,AvoidM g (.slice (some ⟨b,off,none⟩) ms.length cap) ms→Avoid g (.slice aon n.names.length capn)):=Lib.hid fun g hg=>by have:=hg.2 _ (List.getElem_mem hk);rw[hmk]at this;exact this);clear hmk;clear h0 h1 h2 hin hat hn hrn;(try clear hmk);go_enter Tryz.func30,Tryz.ntmps30;go_wp2_with fail;refine fresh2 (P:=fun W=>bodyPost _ _ _ _ _ W) ?_;intro W0 hb0 hP hQ hs0;refine bodyPost_ret (hret _ _ _ hQ rfl _ rfl) rfl ?_;exact⟨.slice aon n.names.length capn,by rw[HGe.out,HG.out];rfl,by rw[HGe.out];exact rd_keep HR.out hb0,hb0,HA.out⟩
theorem rget_g (X:Nat→Prop)(l:List NodeL)(most room i:Int)(v:Value)(W:World)(hg:GivesX X l v W)(hl:l.length≤10000) :
 Calls Tryz.prog 30 #[.agg #[v, .int .i64 most, .int .i64 room], .int .i64 i] W fun e w'=>∃ao cap,e = .returned (.tuple #[nval (nodeL l i) (.slice ao (nodeL l i).names.length cap), .bool (gotB l i)])∧NodeX X (nodeL l i) (.slice ao (nodeL l i).names.length cap) w'∧Below W.heap.size W w':=by
 obtain⟨m,rfl,h,ha⟩:=hg;refine(rgetx_any v m most room i W h (by rw[←pl_len];exact hl)).mono ?_;rintro e w' ⟨v1,rfl,hr,hb,hav⟩;(have hgl:getL (pl m) i=nodeL (pl m) i:=by unfold getL nodeL;cases gotB (pl m) i<;>rfl);rw[hgl]at hr ⊢;have hN:NodeX X (nodeL (pl m) i) v1 w':=⟨hr,fun g hx=>hav g (ha g hx)⟩;obtain⟨ao,cap,rfl⟩:=node_form hN;exact⟨ao,cap,rfl,hN,hb⟩
end Go.Proofs.YtpbmbpefophlfaaGreatDoor
namespace Go.Proofs.YtpbmbpefophlfaaGreatDoor
open Go.RowKit Go.Shelf Go.Lib Go.Extern.Stop Go.Stop Go.Extern
abbrev faultV (n:Int):Value:= .iface 296 (.int .i64 n)
abbrev errTypeV:Value:= .iface 207 (.agg #[.pointer (some ⟨15,86,none⟩)])
abbrev hdl (t:TypeId):Value:= .pointer (some ⟨15,t,none⟩)
abbrev rtV (t:TypeId):Value:= .iface 207 (.agg #[hdl t])
theorem asMethodKind (h:Value)(w:World):(Go.method 475 207 (.agg #[h]) "Kind").run Tryz.prog w = .ok (268,h) w:=by kernel_rfl
theorem rlm (z:Sem Value)(f:TypeId→Addr→Nat→Nat→Sem Value)(v:Value) :
 ReflectliteValue.method z f #[v]=(do match ←ReflectliteValue.parts v with | none=>z | some (t,a,fl)=>f t a fl (fl % 32)):=rfl
theorem asMethodElem (h:Value)(w:World):(Go.method 475 207 (.agg #[h]) "Elem").run Tryz.prog w = .ok (278, .agg #[h]) w:=by kernel_rfl
theorem asMethodImplements (h:Value)(w:World):(Go.method 475 207 (.agg #[h]) "Implements").run Tryz.prog w = .ok (279, .agg #[h]) w:=by kernel_rfl
theorem asMethodAssignableTo (h:Value)(w:World):(Go.method 475 207 (.agg #[h]) "AssignableTo").run Tryz.prog w = .ok (276, .agg #[h]) w:=by kernel_rfl
theorem rls (v x:Value):ReflectliteValue.set #[v,x]=(do
 let (some (dst,a,fl),some (src,b,_)):=(←ReflectliteValue.parts v,←ReflectliteValue.parts x)
  | unsupported (.noEntry "extern/(internal/reflectlite.Value).Set.zeroValue")
 if fl / ReflectliteValue.flagAddr % 2 == 0 then unsupported (.noEntry "extern/(internal/reflectlite.Value).Set.unaddressable")
 let val ←loadVar src b
 if ←Rtype.directlyAssignable dst src then storeVar dst a val
 else if ←Rtype.implements dst src then
  if(←Rtype.kind src) == 20 then
   match val with
   | .nilIface=>unsupported (.noEntry "extern/reflectlite: a nil value of one interface type handed on as a value of another")
   | _=>storeVar dst a val
  else storeVar dst a (.iface src val)
 else panicString ("reflectlite.Set: value of type " ++ (←Rtype.spelt src)++ " is not assignable to type " ++ (←Rtype.spelt dst))
 pure (.tuple #[])):=rfl
def AsIs (t:Addr)(n:Int)(e:Ending)(w w':World):Prop:=e = .returned (.bool true)∧w'.cell? t=some (.int .i64 n)∧w.grownBy w' (some t.block)
theorem grown_set (w:World)(a:Addr)(u:Value):w.grownBy (w.setCell a u) (some a.block) :=
 ⟨rfl,rfl,rfl,by simp[World.setCell],fun k _ hne=>Below.heap_setCell _ _ _ _ (fun e=>hne (by rw[e]))⟩
theorem grown_tr {a b c:World}{row:Option Nat}(h:a.grownBy b row)(k:b.grownBy c row):a.grownBy c row :=
 ⟨k.os.trans h.os,k.tape.trans h.tape,k.output.trans h.output,Nat.le_trans h.size k.size,fun i hi hne=>(k.block i (Nat.lt_of_lt_of_le hi h.size) hne).trans (h.block i hi hne)⟩
theorem grown_bel {a b:World}{row:Option Nat}(h:Below a.heap.size a b):a.grownBy b row:=⟨h.os,h.tape,h.output,h.size,fun i hi _=>h.block i hi⟩
theorem as_is {t:Addr}{n:Int}{old:Value}{w W:World}(hg:Below w.heap.size w W)(ht0:w.cell? t=some old):AsIs t n (.returned (.bool true)) w (W.setCell t (.int .i64 n)):=by
 have htl:=World.block_lt_of_cell? w t ht0;have hc:W.cell? t=some old:=(hg.cell htl).trans ht0;exact⟨rfl,World.cell?_setCell_same _ _ _ hc,grown_tr (grown_bel hg) (grown_set _ _ _)⟩
def NumIs (n:Int)(e:Ending)(w w':World):Prop:=e = .returned (.int .i64 n)∧Below w.heap.size w w'
end Go.Proofs.YtpbmbpefophlfaaGreatDoor
namespace Go.Proofs.YtpbmbpefophlfaaGreatDoor
open Go.RowKit Go.Shelf
attribute [local go_sem ↓] Go.wp_at_zero Go.wp_at_succ
structure WayF where
 nodes:Value
 most:Int
 room:Int
 who:Int
 follow:Bool
 slash:Bool
abbrev wcells (F:WayF)(i:Int)(vl:Value)(hops:Int)(sp:SpotL):Array Value :=
 #[F.nodes, .int .i64 F.most, .int .i64 F.room, .int .i64 F.who, .bool F.follow, .bool F.slash, .int .i64 i,vl, .int .i64 hops, .int .i64 sp.dir, .string (bs sp.name), .int .i64 sp.ino, .bool sp.slash]
structure WayM (b:Nat) (F:WayF) (i:Int) (vl:Value) (left:List Str) (hops:Nat) (sp:SpotL) (W:World):Prop where
 blk:W.heap[b]? = some (.cells (wcells F i vl hops sp) 272 (0,0))
 lft:Rd W.heap.size 1 vl left.length (strs left) W
 far:vl.ownBlock≠some b
theorem WayM.lt {b:Nat}{F:WayF}{i:Int}{vl:Value}{left:List Str}{hops:Nat}{sp:SpotL}{W:World}(h:WayM b F i vl left hops sp W):b<W.heap.size:=(Array.getElem?_eq_some_iff.1 h.blk).1
theorem WayM.keep {b:Nat}{F:WayF}{i:Int}{vl:Value}{left:List Str}{hops:Nat}{sp:SpotL}{W W':World}(h:WayM b F i vl left hops sp W)(hb:Below W.heap.size W W'):WayM b F i vl left hops sp W' :=
 ⟨(hb.block b h.lt).trans h.blk,rd_keep h.lft hb,h.far⟩
def Wrong (n:Int)(b:Nat)(e:Ending)(w w':World):Prop:=n≠0∧e = .returned (faultV n)∧w.grownBy w' (some b)
def GoesOn (b:Nat)(F:WayF)(i:Int)(left:List Str)(hops:Nat)(sp:SpotL)(e:Ending)(w w':World):Prop:=∃vl,e = .returned .nilIface∧WayM b F i vl left hops sp w'∧w.grownBy w' (some b)
end Go.Proofs.YtpbmbpefophlfaaGreatDoor
namespace Go.Proofs.YtpbmbpefophlfaaGreatDoor
open Go.RowKit Go.Shelf
attribute [local go_sem ↓] Go.wp_at_zero Go.wp_at_succ
structure DskOk (ms:List NodeM):Prop where
 len:ms.length≤10000
 nms : ∀n∈pl ms,n.names.length≤10000
 right:RightP (pl ms)
theorem DskOk.names {ms:List NodeM}(hd:DskOk ms)(i:Int):(nodeL (pl ms) i).names.length≤10000:=by
 cases hg:gotB (pl ms) i with
 | false=>unfold nodeL;rw[hg];exact Nat.zero_le _
 | true =>
    obtain⟨k,rfl,hlt,hn,_,_⟩:=right_ok hd.right hg;rw[hn];exact hd.nms _ (List.getElem_mem hlt)
end Go.Proofs.YtpbmbpefophlfaaGreatDoor
namespace Go.Proofs.YtpbmbpefophlfaaGreatDoor
open Go.RowKit Go.Shelf
attribute [local go_sem ↓] Go.wp_at_zero Go.wp_at_succ
def finL (l:List NodeL)(F:WayF)(i:Int)(left:List Str)(hops:Nat)(sp:SpotL):ResL:=if left = []then(sp,0)else goW l F.who F.follow F.slash i left hops
def StepIs (l:List NodeL)(b:Nat)(F:WayF)(M:Nat)(R:ResL)(e:Ending)(w w':World):Prop :=
 (∃n,R=(zeroS,n)∧Wrong n b e w w')∨(∃i left hops sp,GoesOn b F i left hops sp e w w'∧finL l F i left hops sp=R∧hops≤8∧(8-hops)*101+left.length<M)
theorem StepIs.from {l:List NodeL}{b:Nat}{F:WayF}{M:Nat}{R:ResL}{e:Ending}{w w0 w':World}(hg:w.grownBy w0 (some b))(h:StepIs l b F M R e w0 w'):StepIs l b F M R e w w':=by
 rcases h with⟨n,h1,h2,h3,h4⟩ | ⟨i,left,hops,sp,⟨vl,h1,h2,h3⟩,h4⟩
 · exact .inl ⟨n,h1,h2,h3,grown_tr hg h4⟩
 · exact .inr ⟨i,left,hops,sp,⟨vl,h1,h2,grown_tr hg h3⟩,h4⟩
end Go.Proofs.YtpbmbpefophlfaaGreatDoor
namespace Go.Proofs.YtpbmbpefophlfaaGreatDoor
open Go.RowKit Go.Shelf
attribute [local go_sem ↓] Go.wp_at_zero Go.wp_at_succ
structure DskW (ms:List NodeM):Prop where
 ok:DskOk ms
 dat : ∀n∈pl ms,n.data.length≤10000
theorem DskW.len {ms:List NodeM}(hd:DskW ms)(i:Int):(nodeL (pl ms) i).data.length≤10000:=by
 cases hg:gotB (pl ms) i with
 | false=>unfold nodeL;rw[hg];exact Nat.zero_le _
 | true =>
    obtain⟨k,rfl,hlt,hn,_,_⟩:=right_ok hd.ok.right hg;rw[hn];exact hd.dat _ (List.getElem_mem hlt)
end Go.Proofs.YtpbmbpefophlfaaGreatDoor
namespace Go.Proofs.YtpbmbpefophlfaaGreatDoor
open Go.RowKit Go.Shelf
attribute [local go_sem ↓] Go.wp_at_zero Go.wp_at_succ
theorem code_set1 {P:Program}{a:Act}{w:World}{c:Code}{K:Exit→Act→World→Prop}{b i:Nat}{u:Value}{cs:Array Value}{t:TypeId}(hb:w.heap[b]? = some (.cells cs t (0,0)))
 (h : ∀W',Below b w W'→(∀g,g≠b→W'.heap[g]? = w.heap[g]?)→W'.heap.size=w.heap.size→W'.heap[b]? = some (.cells (cs.setIfInBounds i u) t (0,0))→c.wp P K a W'):c.wp P K a (w.setCell ⟨b,i,none⟩ u) :=
  h _ ((Below.refl b w).setCell (p:=⟨b,i,none⟩) (Nat.le_refl _) u) (fun g hg=>Below.heap_setCell _ _ _ g hg) (by simp[World.setCell]) (heap_set hb)
abbrev diskV (ao:Option Addr)(n cap:Nat)(most room:Int):Value:= .agg #[.slice ao n cap, .int .i64 most, .int .i64 room]
end Go.Proofs.YtpbmbpefophlfaaGreatDoor
namespace Go.Proofs.YtpbmbpefophlfaaGreatDoor
open Go.RowKit Go.Shelf
attribute [local go_sem ↓] Go.wp_at_zero Go.wp_at_succ
abbrev And1 (X:Nat→Prop)(b:Nat):Nat→Prop:=fun g=>X g∨g=b
theorem Old.and {X:Nat→Prop}{b:Nat}{W:World}(h:Old X W)(hb:b<W.heap.size):Old (And1 X b) W:=fun g hg=>hg.elim (h g) fun(e:g=b)=>by rw[e];exact hb
theorem GivesX.and {X:Nat→Prop}{b:Nat}{l:List NodeL}{v:Value}{W W':World}(h:GivesX X l v W)(hb:Below W.heap.size W W')(hn:W.heap.size≤b):GivesX (And1 X b) l v W':=h.add hb fun g hg=>hg.imp id fun(e:g=b)=>by rw[e];exact hn
theorem NodeX.and {X:Nat→Prop}{b:Nat}{n:NodeL}{v:Value}{W W':World}(h:NodeX X n v W)(hb:Below W.heap.size W W')(hn:W.heap.size≤b):NodeX (And1 X b) n v W':=h.add hb fun g hg=>hg.imp id fun(e:g=b)=>by rw[e];exact hn
end Go.Proofs.YtpbmbpefophlfaaGreatDoor
