import Derived.Test.YtmiekcdkamgknaaGreatDoorR16
import Derived.Test.YtmiekcdkamgknaaGreatDoorR17
import Derived.Test.YtmiekcdkamgknaaGreatDoorR20
import Derived.Deep.DeepCutAuto
import Derived.Test.YtmiekcdkamgknaaGreatDoorR18
import Derived.Lib.QuietBelow
import Derived.Deep.DrawnRows
import Derived.Laws.Cover1
import Derived.WalkMore
import Derived.Shelf.Spec.SlicesGrow
import Derived.StillTailTactics
import Derived.Test.YtmiekcdkamgknaaGreatDoorR19
import Derived.Test.YtmiekcdkamgknaaGreatDoorR12
import Derived.Deep.RegionHeld3
import Derived.Deep.RegionLaw
import Derived.Handy
namespace Go.Proofs.YtmiekcdkamgknaaGreatDoor
open Go.RowKit Go.Shelf
attribute [local go_sem ↓] Go.wp_at_zero Go.wp_at_succ
theorem code_fresh2 {P:Program}{a:Act}{w:World}{A B:Obj}{c:Code}{K:Exit→Act→World→Prop}(h : ∀W,Below w.heap.size w W→W.heap[w.heap.size]? = some A→W.heap[w.heap.size+1]? = some B→W.heap.size=w.heap.size+2→c.wp P K a W):c.wp P K a ((w.alloc A).alloc B):=fresh2 (P:=fun W=>c.wp P K a W) h
def GivesX (X:Nat→Prop)(l:List NodeL)(v:Value)(W:World):Prop:=∃ms,pl ms=l∧RdM W.heap.size v ms W∧∀g,X g→AvoidM g v ms
def NodeX (X:Nat→Prop)(n:NodeL)(vn:Value)(W:World):Prop:=RdNm W.heap.size (n,vn) W∧∀g,X g→Avoid g vn
def Old (X:Nat→Prop)(W:World):Prop:=∀g,X g→g<W.heap.size
theorem GivesX.gives {X:Nat→Prop}{l:List NodeL}{v:Value}{W:World}(h:GivesX X l v W):GivesN l v W:=by
 obtain⟨ms,a,b,_⟩:=h;exact⟨ms,a,b⟩
theorem GivesX.keep {X:Nat→Prop}{l:List NodeL}{v:Value}{W W':World}(h:GivesX X l v W)(hb:Below W.heap.size W W'):GivesX X l v W':=by
 obtain⟨ms,a,b,c⟩:=h;exact⟨ms,a,rdm_keep b hb,c⟩
theorem GivesX.sub {X Y:Nat→Prop}{l:List NodeL}{v:Value}{W:World}(h:GivesX X l v W)(hs : ∀g,Y g→X g):GivesX Y l v W:=by
 obtain⟨ms,a,b,c⟩:=h;exact⟨ms,a,b,fun g hg=>c g (hs g hg)⟩
theorem GivesX.add {X Y:Nat→Prop}{l:List NodeL}{v:Value}{W W':World}(h:GivesX X l v W)(hb:Below W.heap.size W W')(hY : ∀g,Y g→X g∨W.heap.size≤g):GivesX Y l v W':=by
 obtain⟨ms,a,b,c⟩:=h;refine⟨ms,a,rdm_keep b hb,fun g hg=> ?_⟩;rcases hY g hg with h1 | h1
 · exact c g h1
 · exact⟨rd_far b.1 h1,fun x hx=>rd_far (b.2 x hx) h1⟩
theorem GivesX.other {X:Nat→Prop}{l:List NodeL}{v:Value}{b:Nat}{W W':World}(h:GivesX X l v W)(hX:X b)(hs:W'.heap.size=W.heap.size)(hg : ∀g,g≠b→W'.heap[g]? = W.heap[g]?):GivesX X l v W':=by
 obtain⟨ms,a,h1,c⟩:=h;refine⟨ms,a,?_,c⟩;rw[hs];exact rdm_other h1 (c b hX).1 (fun x hx=>(c b hX).2 x hx) hg
theorem NodeX.keep {X:Nat→Prop}{n:NodeL}{vn:Value}{W W':World}(h:NodeX X n vn W)(hb:Below W.heap.size W W'):NodeX X n vn W':=⟨rdnm_keep h.1 hb,h.2⟩
theorem NodeX.sub {X Y:Nat→Prop}{n:NodeL}{vn:Value}{W:World}(h:NodeX X n vn W)(hs : ∀g,Y g→X g):NodeX Y n vn W:=⟨h.1,fun g hg=>h.2 g (hs g hg)⟩
theorem NodeX.add {X Y:Nat→Prop}{n:NodeL}{vn:Value}{W W':World}(h:NodeX X n vn W)(hb:Below W.heap.size W W')(hY : ∀g,Y g→X g∨W.heap.size≤g):NodeX Y n vn W' :=
 ⟨rdnm_keep h.1 hb,fun g hg=>(hY g hg).elim (h.2 g) fun h1=>rd_far h.1 h1⟩
theorem NodeX.other {X:Nat→Prop}{n:NodeL}{vn:Value}{b:Nat}{W W':World}(h:NodeX X n vn W)(hX:X b)(hs:W'.heap.size=W.heap.size)(hg : ∀g,g≠b→W'.heap[g]? = W.heap[g]?):NodeX X n vn W':=by
 refine⟨?_,h.2⟩;rw[hs];exact rd_other h.1 (h.2 b hX) hg
theorem NodeX.zero (X:Nat→Prop)(W:World):NodeX X zeroN (.slice none 0 0) W:=⟨Rd.none0 _ _ _,fun g _ a n c e _=>by cases e⟩
theorem NodeX.same {X:Nat→Prop}{n m:NodeL}{vn:Value}{W:World}(h:NodeX X n vn W)(e:m.names=n.names):NodeX X m vn W:=by
 refine⟨?_,h.2⟩;have h1:=h.1;unfold RdNm at h1 ⊢;rw[e];exact h1
theorem Old.keep {X:Nat→Prop}{W W':World}(h:Old X W)(hb:W.heap.size≤W'.heap.size):Old X W':=fun g hg=>Nat.lt_of_lt_of_le (h g hg) hb
theorem gives_form {X:Nat→Prop}{l:List NodeL}{v:Value}{W:World}(h:GivesX X l v W) : ∃ao cap,v = .slice ao l.length cap:=by
 obtain⟨ms,rfl,hv,_⟩:=h;obtain⟨ao,cap,e,_,_⟩:=rdm_form hv;exact⟨ao,cap,by rw[pl_len];exact e⟩
theorem node_form {X:Nat→Prop}{n:NodeL}{v:Value}{W:World}(h:NodeX X n v W) : ∃ao cap,v = .slice ao n.names.length cap:=by
 obtain⟨ao,cap,e,_,_⟩:=Rd.form h.1;exact⟨ao,cap,e⟩
def RDiskIs (X:Nat→Prop)(l:List NodeL)(most room:Int)(e:Ending)(w w':World):Prop :=
 ∃ao cap,e = .returned (.agg #[.slice ao l.length cap, .int .i64 most, .int .i64 room])∧GivesX X l (.slice ao l.length cap) w'∧Below w.heap.size w w'
def RGetX (v:Value)(ms:List NodeM)(i:Int)(e:Ending)(W W':World):Prop :=
 ∃vn,e = .returned (.tuple #[nval (getL (pl ms) i) vn, .bool (gotB (pl ms) i)])∧RdNm W'.heap.size (getL (pl ms) i,vn) W'∧Below W.heap.size W W'∧∀g,AvoidM g v ms→Avoid g vn
theorem getx_no {v:Value}{ms:List NodeM}{i:Int}{w W:World}(h:gotB (pl ms) i=false)(hb:Below w.heap.size w W):RGetX v ms i (.returned (.tuple #[.agg #[.int .i64 0, .int .i64 0, .int .i64 0, .int .i64 0, .int .i64 0, .int .i64 0, .string ⟨#[]⟩, .slice none 0 0], .bool false])) w W :=
 ⟨.slice none 0 0,by unfold getL;rw[h];rfl,by unfold getL;rw[h];exact Rd.none0 _ _ _,hb,fun g _ a n c e _=>by cases e⟩
set_option maxRecDepth 100000 in
set_option maxHeartbeats 2000000 in
theorem rgetx_any (v:Value)(ms:List NodeM)(most room i:Int)(w:World)(hv:RdM w.heap.size v ms w)(hl:ms.length≤10000) :
 Calls Tryz.prog 22 #[.agg #[v, .int .i64 most, .int .i64 room], .int .i64 i] w fun e w'=>RGetX v ms i e w w':=by
 obtain⟨ao,cap,rfl,_,_⟩:=rdm_form hv;have HV:=Lib.hid hv;have HL:=Lib.hid hl;clear hv
 have hret : ∀(W:World) (cs:Array Value) (fr),W.heap[w.heap.size+1]? = some (.cells cs 85 fr)→cs.size=8→∀tmps:Array Value,tmps.getD 4 undef = .pointer (some ⟨w.heap.size+1,0,none⟩)→(results Tryz.f22 tmps).run Tryz.prog W = .ok (.tuple #[.agg cs,tmps.getD 5 undef]) W:=fun W cs fr h hs tmps ht =>
  results_ct (p:=4) (u:=5) (ty:=85) rfl tmps W (w.heap.size+1) _ cs fr _ ht h Tryz.underlying85 rfl (by rw[hs];kernel_rfl)
 (have no : ∀W:World,gotB (pl ms) i=false→Below w.heap.size w W→RGetX (.slice ao ms.length cap) ms i (.returned (.tuple #[.agg #[.int .i64 0, .int .i64 0, .int .i64 0, .int .i64 0, .int .i64 0, .int .i64 0, .string ⟨#[]⟩, .slice none 0 0], .bool false])) w W:=fun _ h hb=>getx_no h hb);have HNO:=Lib.hid no;clear no;by_cases h1:i<0
 · have hI:decide (i<0)=true:=by simpa using h1
   have HG:Hid (gotB (pl ms) i=false):=Lib.hid (by unfold gotB inL;rw[show decide (0≤i)=false by simp;omega];rfl);clear h1;go_enter Tryz.func22,Tryz.ntmps22;go_wp2_with fail;refine fresh2 (P:=fun W=>bodyPost _ _ _ _ _ W) ?_;intro W0 hb0 hP hQ hs0;refine bodyPost_ret (hret _ _ _ hQ rfl _ rfl) rfl ?_;exact HNO.out _ HG.out hb0
 (have g1:decide (i<0)=false:=by simpa using h1);by_cases h2:(ms.length:Int)≤i
 · have hI:decide ((ms.length:Int)≤i)=true:=by simpa using h2
   have HG:Hid (gotB (pl ms) i=false):=Lib.hid (by unfold gotB inL;rw[show decide (i<(pl ms).length)=false by rw[pl_len];simpa using h2];simp);clear h1 h2;go_enter Tryz.func22,Tryz.ntmps22;go_wp2_with fail;refine fresh2 (P:=fun W=>bodyPost _ _ _ _ _ W) ?_;intro W0 hb0 hP hQ hs0;refine bodyPost_ret (hret _ _ _ hQ rfl _ rfl) rfl ?_;exact HNO.out _ HG.out hb0
 (have g2:decide ((ms.length:Int)≤i)=false:=by simpa using h2);obtain⟨k,rfl,hk⟩ : ∃k:Nat,i=k∧k<ms.length:=⟨i.toNat,by omega,by omega⟩;have hin:=nat_in (l:=pl ms) (k:=k) (by rw[pl_len];exact hk);have hat:=at_nat (pl ms) k (by rw[pl_len];exact hk);(have k0:(0:Int)≤(k:Int):=by omega);(have k1:(k:Int)<(ms.length:Int):=by omega);obtain⟨b,off,n,aon,capn,rfl,hb,hn,hmk,hrn,c0,c1,c2,c3,c4,c5,c6,c7⟩:=node_at HV.out k hk;rw[hn]at hat;by_cases h0:n.kind=0
 · have hd:(n.kind == 0)=true:=by simpa using h0
   have HG:Hid (gotB (pl ms) k=false):=Lib.hid (by unfold gotB;rw[hat];simp[h0]);clear h0 h1 h2 hin hat hn hrn;(try clear hmk);go_enter Tryz.func22,Tryz.ntmps22;go_wp2_with fail;refine fresh2 (P:=fun W=>bodyPost _ _ _ _ _ W) ?_;intro W0 hb0 hP hQ hs0;refine bodyPost_ret (hret _ _ _ hQ rfl _ rfl) rfl ?_;exact HNO.out _ HG.out hb0
 · have hd:(n.kind == 0)=false:=by simpa using h0
   have HG:Hid (gotB (pl ms) k=true):=Lib.hid (by unfold gotB;rw[hat,hin];simp[h0]);have HGe:Hid (getL (pl ms) k=n):=Lib.hid (by unfold getL;rw[HG.out,hat];rfl);have HR:=Lib.hid hrn;(have HA:Hid (∀g,AvoidM g (.slice (some ⟨b,off,none⟩) ms.length cap) ms→Avoid g (.slice aon n.names.length capn)):=Lib.hid fun g hg=>by have:=hg.2 _ (List.getElem_mem hk);rw[hmk]at this;exact this);clear hmk;clear h0 h1 h2 hin hat hn hrn;(try clear hmk);go_enter Tryz.func22,Tryz.ntmps22;go_wp2_with fail;refine fresh2 (P:=fun W=>bodyPost _ _ _ _ _ W) ?_;intro W0 hb0 hP hQ hs0;refine bodyPost_ret (hret _ _ _ hQ rfl _ rfl) rfl ?_;exact⟨.slice aon n.names.length capn,by rw[HGe.out,HG.out];rfl,by rw[HGe.out];exact rd_keep HR.out hb0,hb0,HA.out⟩
theorem rget_g (X:Nat→Prop)(l:List NodeL)(most room i:Int)(v:Value)(W:World)(hg:GivesX X l v W)(hl:l.length≤10000) :
 Calls Tryz.prog 22 #[.agg #[v, .int .i64 most, .int .i64 room], .int .i64 i] W fun e w'=>∃ao cap,e = .returned (.tuple #[nval (nodeL l i) (.slice ao (nodeL l i).names.length cap), .bool (gotB l i)])∧NodeX X (nodeL l i) (.slice ao (nodeL l i).names.length cap) w'∧Below W.heap.size W w':=by
 obtain⟨m,rfl,h,ha⟩:=hg;refine(rgetx_any v m most room i W h (by rw[←pl_len];exact hl)).mono ?_;rintro e w' ⟨v1,rfl,hr,hb,hav⟩;(have hgl:getL (pl m) i=nodeL (pl m) i:=by unfold getL nodeL;cases gotB (pl m) i<;>rfl);rw[hgl]at hr ⊢;have hN:NodeX X (nodeL (pl m) i) v1 w':=⟨hr,fun g hx=>hav g (ha g hx)⟩;obtain⟨ao,cap,rfl⟩:=node_form hN;exact⟨ao,cap,rfl,hN,hb⟩
end Go.Proofs.YtmiekcdkamgknaaGreatDoor
namespace Go.Proofs.YtmiekcdkamgknaaGreatDoor
open Go.RowKit Go.Shelf
open Go.WideShapes (add_plain)
attribute [local go_sem ↓] Go.wp_at_zero Go.wp_at_succ
def growRenS:Go.Shelf.Ren:=⟨fun | 4=>230 | n=>n,fun | 0=>0 | 3=>3 | 4=>4 | 9=>9 | 20=>20 | 22=>36 | 25=>9 | n=>n,fun | n=>n⟩
theorem growLaidS:Lays8.n4 Tryz.prog growRenS:= {
 mixed:=by kernel_rfl
 f4:=⟨ "slices.Grow[[]string,string]",by decide,Tryz.func230.trans (congrArg some (by kernel_rfl))⟩
 t0:=Tryz.underlying0
 a0:=Tryz.isAgg0
 z0:=Tryz.sizeOf0
 v0:=Tryz.zeroValue0
 t3:=Tryz.underlying3
 a3:=Tryz.isAgg3
 z3:=Tryz.sizeOf3
 v3:=Tryz.zeroValue3
 t4:=Tryz.underlying4
 a4:=Tryz.isAgg4
 z4:=Tryz.sizeOf4
 v4:=Tryz.zeroValue4
 t9:=Tryz.underlying9
 a9:=Tryz.isAgg9
 z9:=Tryz.sizeOf9
 v9:=Tryz.zeroValue9
 t20:=Tryz.underlying20
 a20:=Tryz.isAgg20
 z20:=Tryz.sizeOf20
 v20:=Tryz.zeroValue20
 t22:=Tryz.underlying36
 a22:=Tryz.isAgg36
 z22:=Tryz.sizeOf36
 v22:=Tryz.zeroValue36}
def GrowIsS (e:Ending)(W W':World):Prop:=∃v,e = .returned v∧W'.ownsRow W.heap.size 9 1 v 0 []∧Below W.heap.size W W'
theorem grow_anyS (n:Nat)(hn:n≤1000000)(w:World):Calls Tryz.prog 230 #[.slice none 0 0, .int .i64 n] w fun e w'=>GrowIsS e w w':=by
 obtain⟨i0,hi0,hz0,hz1,hz2⟩:=info_parts infoStr;rcases Nat.eq_zero_or_pos n with rfl | hp
 · refine(Any8.slices_Grow_room growLaidS none 0 0 0 w (Nat.le_refl _) (by decide) (by decide) (by decide)).mono ?_
   rintro e w' ⟨rfl,rfl⟩;exact⟨_,rfl,⟨rfl, .inl ⟨rfl,rfl⟩⟩,Below.refl _ _⟩
 · refine(Any8.slices_Grow_grow growLaidS i0 _ hi0 hz0 (by omega) none 0 0 n [] w (Nat.le_refl _) (by omega) (by rw[hz2];omega) (by omega) (by simp) (fun _=>rfl) (fun a h=>by cases h)).mono ?_
   rintro e w' ⟨rfl,rfl⟩;have h1:=grownCap_ge w (0+n) 0 9;have h2:=grownCap_le_maxLen w (0+n) 0 9 (by unfold maxLen;omega);refine⟨_,rfl,⟨rfl, .inr ⟨w.heap.size,_,_,rfl,Nat.le_refl _,heap_alloc_new w.drew _,Nat.zero_le _,h2,?_,by simp⟩⟩,((Below.refl _ w).drew).alloc (Nat.le_refl _) _⟩;show(#[]++_++_:Array Value).size=grownCap w (0+n) 0 9*1;rw[Array.size_append,Array.size_append,size_zeroCells,size_zeroCells];show 0+(0+n-0)*1+(grownCap w (0+n) 0 9-(0+n))*1=_;omega
abbrev SrcS:=Value × List Str
def allLS (S:List SrcS):List Str:=(S.map (·.2)).flatten
theorem allL_succS (S:List SrcS)(k:Nat)(h:k<S.length):allLS (S.take (k+1))=allLS (S.take k)++S[k].2:=by
 unfold allLS;rw[List.take_succ_eq_append_getElem h,List.map_append,List.flatten_append];simp
theorem allL_lenS (S:List SrcS)(hs : ∀x∈S,x.2.length≤10001)(h3:S.length≤3)(k:Nat):(allLS (S.take k)).length≤30003:=by
 have main : ∀S:List SrcS,(∀x∈S,x.2.length≤10001)→(allLS S).length≤S.length*10001:=by
  intro S
  induction S with
  | nil=>intro _;exact Nat.le_refl _
  | cons a S ih =>
     intro h;(have h1:=ih fun x hx=>h x (by simp[hx]));have h2:=h a (by simp);(have:(allLS (a::S)).length=a.2.length+(allLS S).length:=by simp[allLS]);rw[this,List.length_cons];omega
 (have h1:=main (S.take k) fun x hx=>hs x (List.mem_of_mem_take hx));(have h2:(S.take k).length≤3:=by rw[List.length_take];omega);omega
def CatIs (l:List Str)(e:Ending)(W W':World):Prop:=∃v,e = .returned v∧W'.ownsRow W.heap.size 9 1 v l.length (strs l)∧Below W.heap.size W W'
def SrcOkS (B b off:Nat)(S:List SrcS)(w:World):Prop:=∀k (h:k<S.length),w.cell? ⟨b,off+k,none⟩=some S[k].1∧Rd B 1 S[k].1 S[k].2.length (strs S[k].2) w
set_option maxRecDepth 100000 in
set_option maxHeartbeats 4000000 in
theorem sconcat_any (b off cap:Nat)(S:List SrcS)(w:World)(hb:b<w.heap.size)(hS:SrcOkS w.heap.size b off S w)(hs : ∀x∈S,x.2.length≤10001)(h3:S.length≤3) :
 Calls Tryz.prog 216 #[.slice (some ⟨b,off,none⟩) S.length cap] w fun e w'=>CatIs (allLS S) e w w':=by
 obtain⟨i0,hi0,hz0,hz1,hz2⟩:=info_parts infoStr;have HS:=Lib.hid hS;have HL:=Lib.hid (allL_lenS S hs h3);clear hS hs;go_enter Tryz.func216,Tryz.ntmps216;go_wp2_with fail;go_loop [3,11] (fun z i=>∃k:Nat,i = .int .i64 k∧k≤S.length∧z = .int .i64 (allLS (S.take k)).length) (fun _ i=>S.length-(intOf i).toNat)
 case atStart=>exact⟨0,rfl,Nat.zero_le _,rfl⟩
 case round =>
  obtain⟨k,rfl,hk,rfl⟩:=hrel;have hkl:=HL.out k;by_cases hlt:k<S.length
  · obtain⟨hc0,hr⟩:=HS.out k hlt
    have hl1:Hid ((allLS (S.take (k+1))).length=(allLS (S.take k)).length+S[k].2.length):=Lib.hid (by rw[allL_succS S k hlt,List.length_append]);have hkl1:=HL.out (k+1);rw[hl1.out]at hkl1;obtain⟨ao,cap',e,_,_⟩:=hr.form;rw[e]at hc0;clear e hr;generalize (allLS (S.take k)).length=z at *;generalize S[k].2.length=y at *;go_wp2_with fail;go_round
    case rel=>exact⟨k+1,by go_num,hlt,by rw[hl1.out];go_num⟩
    case measure=>simp[intOf];omega
  · have hke:k=S.length:=by omega
    have HT:Hid (S.take k=S):=Lib.hid (by rw[hke,List.take_length]);(have hI2:decide (k<S.length)=false:=by simp;omega);rw[HT.out]at hkl ⊢;clear hke hlt;go_wp2_with fail;refine(grow_anyS (allLS S).length (by omega) _).mono ?_;rintro e w1 ⟨v,rfl,hown,hb1⟩;have HO:=Lib.hid hown;have HB:=Lib.hid hb1;clear hown hb1;go_wp2_with fail;go_loopw [6,27] (fun o i wr=>∃k:Nat,i = .int .i64 k∧k≤S.length∧wr.ownsRow w.heap.size 9 1 o (allLS (S.take k)).length (strs (allLS (S.take k)))∧Below w.heap.size w wr) (fun _ i _=>S.length-(intOf i).toNat)
    case atStart=>exact⟨0,rfl,Nat.zero_le _,HO.out,HB.out⟩
    case round =>
     obtain⟨k,rfl,hk,hown,hBr⟩:=hrel;have sB:=hBr.size;by_cases hlt:k<S.length
     · obtain⟨hc0,hr⟩:=HS.out k hlt
       have hc1:=(hBr.cell (p:=⟨b,off+k,none⟩) hb).trans hc0;have hl1:Hid ((allLS (S.take (k+1))).length=(allLS (S.take k)).length+S[k].2.length):=Lib.hid (by rw[allL_succS S k hlt,List.length_append]);have he1:Hid (strs (allLS (S.take (k+1)))=strs (allLS (S.take k))++strs S[k].2):=Lib.hid (by rw[allL_succS S k hlt,strs_app]);have hkl1:=HL.out (k+1);rw[hl1.out]at hkl1;have hr1:=Lib.hid (hr.below hBr);obtain⟨ao,cap',e,_,_⟩:=hr.form;rw[e]at hc1 hr1;clear e hr hc0;generalize (allLS (S.take k)).length=z at *;generalize S[k].2.length=y at *;go_wp2_with (at_builtin;go_loud (refine wpList_append_rd rfl (.tmp 31) (.tmp 32) 36 rfl w.heap.size 9 i0 _ 1 16 Tryz.underlying36 hi0 hz0 hz1 hz2 rfl (by decide) _ z _ rfl hown w.heap.size _ y (strs S[k].2) rfl hr1.out (strs_one _) (by unfold maxLen;omega) (by omega) sB ?_));intro v3 w3 ho3 hgr3;have hB3:Below w.heap.size w w3:=hBr.grown hgr3 sB (fun j ej=>(hown.lt j ej).1);rw[←he1.out,←hl1.out]at ho3;go_wp2_with fail;go_roundw
       case rel=>exact⟨k+1,by go_num,hlt,ho3,hB3⟩
       case measure=>simp[intOf];omega
     · have hke:k=S.length:=by omega
       have HT2:Hid (S.take k=S):=Lib.hid (by rw[hke,List.take_length]);(have hI2:decide (k<S.length)=false:=by simp;omega);rw[HT2.out]at hown;clear hke hlt;go_wp2_with fail;go_ret;exact⟨_,rfl,hown,hBr⟩
end Go.Proofs.YtmiekcdkamgknaaGreatDoor
namespace Go.Proofs.YtmiekcdkamgknaaGreatDoor
open Go.RowKit Go.Shelf
attribute [local go_sem ↓] Go.wp_at_zero Go.wp_at_succ
structure WayF where
 nodes:Value
 most:Int
 room:Int
 who:Int
 follow:Bool
 slash:Bool
abbrev wcells (F:WayF)(i:Int)(vl:Value)(hops:Int)(sp:SpotL):Array Value :=
 #[F.nodes, .int .i64 F.most, .int .i64 F.room, .int .i64 F.who, .bool F.follow, .bool F.slash, .int .i64 i,vl, .int .i64 hops, .int .i64 sp.dir, .string (bs sp.name), .int .i64 sp.ino, .bool sp.slash]
structure WayM (b:Nat) (F:WayF) (i:Int) (vl:Value) (left:List Str) (hops:Nat) (sp:SpotL) (W:World):Prop where
 blk:W.heap[b]? = some (.cells (wcells F i vl hops sp) 253 (0,0))
 lft:Rd W.heap.size 1 vl left.length (strs left) W
 far:vl.ownBlock≠some b
theorem WayM.lt {b:Nat}{F:WayF}{i:Int}{vl:Value}{left:List Str}{hops:Nat}{sp:SpotL}{W:World}(h:WayM b F i vl left hops sp W):b<W.heap.size:=(Array.getElem?_eq_some_iff.1 h.blk).1
theorem WayM.keep {b:Nat}{F:WayF}{i:Int}{vl:Value}{left:List Str}{hops:Nat}{sp:SpotL}{W W':World}(h:WayM b F i vl left hops sp W)(hb:Below W.heap.size W W'):WayM b F i vl left hops sp W' :=
 ⟨(hb.block b h.lt).trans h.blk,rd_keep h.lft hb,h.far⟩
theorem cells13 {W:World}{b:Nat}{u0 u1 u2 u3 u4 u5 u6 u7 u8 u9 u10 u11 u12:Value}{t:TypeId}{f:Nat × Nat}(h:W.heap[b]? = some (.cells #[u0,u1,u2,u3,u4,u5,u6,u7,u8,u9,u10,u11,u12] t f)) :
 W.cell? ⟨b,0,none⟩=some u0∧W.cell? ⟨b,1,none⟩=some u1∧W.cell? ⟨b,2,none⟩=some u2∧W.cell? ⟨b,3,none⟩=some u3∧W.cell? ⟨b,4,none⟩=some u4∧W.cell? ⟨b,5,none⟩=some u5∧W.cell? ⟨b,6,none⟩=some u6∧W.cell? ⟨b,7,none⟩=some u7
  ∧ W.cell? ⟨b,8,none⟩=some u8∧W.cell? ⟨b,9,none⟩=some u9∧W.cell? ⟨b,10,none⟩=some u10∧W.cell? ⟨b,11,none⟩=some u11∧W.cell? ⟨b,12,none⟩=some u12:=by
 refine⟨?_,?_,?_,?_,?_,?_,?_,?_,?_,?_,?_,?_,?_⟩<;>(rw[Lib.cell_of_heap h];rfl)
theorem rd_grown {b n size:Nat}{v:Value}{xs:List Value}{W W':World}(h:Rd W.heap.size size v n xs W)(hg:W.grownBy W' (some b))(hf:v.ownBlock≠some b):Rd W'.heap.size size v n xs W' :=
 (h.grown hg (Nat.le_refl _) fun g e=>by cases e;exact hf).mono hg.size
theorem grown_sc {b i:Nat}{W W':World}(h:W.grownBy W' (some b))(u:Value):W.grownBy (W'.setCell ⟨b,i,none⟩ u) (some b):=grown_tr h (grown_set _ ⟨b,i,none⟩ u)
theorem WayM.setAt {b:Nat}{F:WayF}{i:Int}{vl:Value}{left:List Str}{hops:Nat}{sp:SpotL}{W:World}(h:WayM b F i vl left hops sp W)(j:Int):WayM b F j vl left hops sp (W.setCell ⟨b,6,none⟩ (.int .i64 j)) :=
 ⟨(heap_set h.blk).trans (by simp),rd_grown h.lft (grown_set _ _ _) h.far,h.far⟩
def Cat2 (l:List Str)(e:Ending)(X W':World):Prop:=∃v,e = .returned v∧W'.ownsRow (X.heap.size+1) 9 1 v l.length (strs l)∧Below X.heap.size X W'
theorem cat2 (X:World)(vp vl:Value)(P L:List Str)(hP:Rd X.heap.size 1 vp P.length (strs P) X)(hL:Rd X.heap.size 1 vl L.length (strs L) X)(h1:P.length≤10000)(h2:L.length≤10000) :
 Calls Tryz.prog 216 #[.slice (some ⟨X.heap.size,0,none⟩) 2 2] (X.alloc (.cells #[vp,vl] 36)) fun e w'=>Cat2 (P++L) e X w':=by
 have hb0:Below X.heap.size X (X.alloc (.cells #[vp,vl] 36)):=(Below.refl _ X).alloc (Nat.le_refl _) _;have hblk:=heap_alloc_new X (.cells #[vp,vl] 36);(have hz:(X.alloc (.cells #[vp,vl] 36)).heap.size=X.heap.size+1:=by simp);refine(sconcat_any X.heap.size 0 2 [(vp,P),(vl,L)] (X.alloc (.cells #[vp,vl] 36)) (by simp) ?_ ?_ (by simp)).mono ?_
 · intro k hk
   (have h3:k=0∨k=1:=by simp at hk;omega);rcases h3 with rfl | rfl
   · exact⟨by rw[Lib.cell_of_heap hblk];rfl,rd_keep hP hb0⟩
   · exact⟨by rw[Lib.cell_of_heap hblk];rfl,rd_keep hL hb0⟩
 · intro x hx
   simp only[List.mem_cons,List.not_mem_nil,or_false]at hx;rcases hx with rfl | rfl
   · show P.length≤10001;omega
   · show L.length≤10001;omega
 · rintro e w' ⟨v,rfl,h4,h5⟩
   (have e1:allLS [(vp,P),(vl,L)]=P++L:=by simp[allLS]);rw[e1,hz]at h4;exact⟨v,rfl,h4,ret_tr hb0 h5⟩
def Wrong (n:Int)(b:Nat)(e:Ending)(w w':World):Prop:=n≠0∧e = .returned (faultV n)∧w.grownBy w' (some b)
def GoesOn (b:Nat)(F:WayF)(i:Int)(left:List Str)(hops:Nat)(sp:SpotL)(e:Ending)(w w':World):Prop:=∃vl,e = .returned .nilIface∧WayM b F i vl left hops sp w'∧w.grownBy w' (some b)
def TakeIs (n:Int)(b:Nat)(F:WayF)(i:Int)(left:List Str)(hops:Nat)(text:Str)(e:Ending)(w w':World):Prop :=
 Wrong n b e w w'∨(n=0∧GoesOn b F (firstAt i text) (parts text++left) hops ⟨0,[],0,F.slash⟩ e w w')
set_option maxRecDepth 100000 in
set_option maxHeartbeats 4000000 in
theorem take_any (b:Nat)(F:WayF)(i:Int)(vl:Value)(left:List Str)(hops:Nat)(sp:SpotL)(text:Str)(w:World)(hw:WayM b F i vl left hops sp w)(hl:left.length≤10000)(ht:text.length≤10000) :
 Calls Tryz.prog 199 #[.pointer (some ⟨b,0,none⟩), .string (bs text)] w fun e w'=>TakeIs (checkE text) b F i left hops text e w w':=by
 obtain⟨aol,capl,rfl,_,_⟩:=hw.lft.form;have HW:=Lib.hid hw;have hbl:=hw.lt;have hc:=check_any (bs text) (by rw[bs_size];omega) w;rw[bs_list]at hc;have HC:=Lib.hid hc;clear hw hc;by_cases h0:checkE text=0
 · rw[h0]at HC ⊢
   clear h0;go_enter Tryz.func199,Tryz.ntmps199;go_wp2_with fail;refine HC.out.mono ?_;rintro e w1 ⟨rfl,hb1⟩;go_wp2_with fail;refine(split_any (bs text) (by rw[bs_size];omega) w1).mono ?_;rintro e w2 ⟨vp,rfl,hown,hb2⟩;rw[bs_list]at hown ⊢;have hB2:=ret_tr hb1 hb2;have hW2:=HW.out.keep hB2;have HW2:=Lib.hid hW2;have hs2:=hW2.lt;obtain⟨c0,c1,c2,c3,c4,c5,c6,c7,c8,c9,c10,c11,c12⟩:=cells13 hW2.blk;(have rf:=fun j=>Lib.frozen_of_heap hW2.blk j);have HG2:=Lib.hid (grown_bel (row:=some b) hB2);(have hfar:vp.ownBlock≠some b:=fun e=>by have:=(hown.lt _ e).1;have:=hb1.size;omega);have HO:=Lib.hid (Rd.own hown (Nat.le_refl _));obtain⟨aop,capp,rfl⟩:=own_form hown;have HF:=Lib.hid hfar;have hpl:(parts text).length≤10000:=by have:=spans_len text;simp only[parts,List.length_map];omega
   have hfin : ∀(W:World) (vl':Value) (sl:Bool),WayM b F (firstAt i text) vl' (parts text++left) hops ⟨0,[],0,F.slash⟩ W→w.grownBy W (some b)→TakeIs 0 b F i left hops text (.returned .nilIface) w W :=
    fun W vl' _ h1 h2=> .inr ⟨rfl,vl',rfl,h1,h2⟩
   have HFN:=Lib.hid hfin;clear hW2 hown hb1 hb2 hfar HC HW hB2 hfin
   cases hpre:Lib.hasPrefix text [47]with
   | true =>
      have HFi:Hid (firstAt i text=0):=Lib.hid (by unfold firstAt;rw[if_pos hpre]);have HW3:=Lib.hid (HW2.out.setAt 0);have HG3:=Lib.hid (grown_sc (i:=6) HG2.out (.int .i64 0));have HO3:=Lib.hid (rd_grown HO.out (grown_set w2 ⟨b,6,none⟩ (.int .i64 0)) HF.out);(have hz:(w2.setCell ⟨b,6,none⟩ (.int .i64 0)).heap.size=w2.heap.size:=by simp[World.setCell]);clear hpre;go_wp2_with fail;clear c0 c1 c2 c3 c4 c5 c6 c7 c8 c9 c10 c11 c12 rf;generalize w2.setCell ⟨b,6,none⟩ (.int .i64 0)=X at *;rw[←hz];refine(cat2 X _ _ (parts text) left HO3.out HW3.out.lft hpl hl).mono ?_;rintro e w3 ⟨v3,rfl,ho3,hb3⟩;have hW4:=HW3.out.keep hb3;have HB4:=Lib.hid hW4.blk;have HG4:=Lib.hid (grown_tr HG3.out (grown_bel (row:=some b) hb3));have hs3:X.heap.size≤w3.heap.size:=hb3.size;have hbX:=HW3.out.lt;(have hne3:v3.ownBlock≠some b:=fun e=>by have:=(ho3.lt _ e).1;omega);have HV3:=Lib.hid (Rd.own ho3 (Nat.le_refl w3.heap.size));have HN3:=Lib.hid hne3;obtain⟨d0,d1,d2,d3,d4,d5,d6,d7,d8,d9,d10,d11,d12⟩:=cells13 hW4.blk;(have rg:=fun j=>Lib.frozen_of_heap hW4.blk j);obtain⟨ao3,cp3,rfl⟩:=own_form ho3;clear hW4 hb3 ho3 hne3;go_wp2_with fail;go_ret;refine HFN.out _ _ true ⟨(heap_set (heap_set (heap_set (heap_set (heap_set HB4.out))))).trans (by rw[HFi.out];simp),?_,HN3.out⟩ (grown_sc (grown_sc (grown_sc (grown_sc (grown_sc HG4.out _) _) _) _) _);exact rd_grown HV3.out (grown_sc (grown_sc (grown_sc (grown_sc (grown_set _ ⟨b,7,none⟩ _) _) _) _) _) HN3.out
   | false =>
      have HFi:Hid (firstAt i text=i):=Lib.hid (by unfold firstAt;rw[hpre];rfl);have HW3:=HW2;have HG3:=HG2;have HO3:=HO;clear hpre;go_wp2_with fail;clear c0 c1 c2 c3 c4 c5 c6 c7 c8 c9 c10 c11 c12 rf;generalize w2=X at *;refine(cat2 X _ _ (parts text) left HO3.out HW3.out.lft hpl hl).mono ?_;rintro e w3 ⟨v3,rfl,ho3,hb3⟩;have hW4:=HW3.out.keep hb3;have HB4:=Lib.hid hW4.blk;have HG4:=Lib.hid (grown_tr HG3.out (grown_bel (row:=some b) hb3));have hs3:X.heap.size≤w3.heap.size:=hb3.size;have hbX:=HW3.out.lt;(have hne3:v3.ownBlock≠some b:=fun e=>by have:=(ho3.lt _ e).1;omega);have HV3:=Lib.hid (Rd.own ho3 (Nat.le_refl w3.heap.size));have HN3:=Lib.hid hne3;obtain⟨d0,d1,d2,d3,d4,d5,d6,d7,d8,d9,d10,d11,d12⟩:=cells13 hW4.blk;(have rg:=fun j=>Lib.frozen_of_heap hW4.blk j);obtain⟨ao3,cp3,rfl⟩:=own_form ho3;clear hW4 hb3 ho3 hne3;go_wp2_with fail;go_ret;refine HFN.out _ _ true ⟨(heap_set (heap_set (heap_set (heap_set (heap_set HB4.out))))).trans (by rw[HFi.out];simp),?_,HN3.out⟩ (grown_sc (grown_sc (grown_sc (grown_sc (grown_sc HG4.out _) _) _) _) _);exact rd_grown HV3.out (grown_sc (grown_sc (grown_sc (grown_sc (grown_set _ ⟨b,7,none⟩ _) _) _) _) _) HN3.out
 · have hI:(checkE text != 0)=true:=by rw[bne_iff_ne];exact h0
   have H0:=Lib.hid h0;generalize checkE text=n at *;clear h0;go_enter Tryz.func199,Tryz.ntmps199;go_wp2_with fail;refine HC.out.mono ?_;rintro e w1 ⟨rfl,hb1⟩;go_wp2_with fail;go_ret;exact .inl ⟨H0.out,rfl,grown_bel hb1⟩
def HopIs (n:Int)(b:Nat)(F:WayF)(i:Int)(left:List Str)(hops:Nat)(text:Str)(e:Ending)(w w':World):Prop :=
 if 8≤hops then Wrong 8 b e w w' else TakeIs n b F i left (hops+1) text e w w'
set_option maxRecDepth 100000 in
set_option maxHeartbeats 4000000 in
theorem hop_any (b:Nat)(F:WayF)(i:Int)(vl:Value)(left:List Str)(hops:Nat)(sp:SpotL)(text:Str)(w:World)(hw:WayM b F i vl left hops sp w)(hl:left.length≤10000)(ht:text.length≤10000)(hh:hops≤8) :
 Calls Tryz.prog 232 #[.pointer (some ⟨b,0,none⟩), .string (bs text)] w fun e w'=>HopIs (checkE text) b F i left hops text e w w':=by
 have HW:=Lib.hid hw;obtain⟨c0,c1,c2,c3,c4,c5,c6,c7,c8,c9,c10,c11,c12⟩:=cells13 hw.blk;(have rf:=fun j=>Lib.frozen_of_heap hw.blk j);clear hw;by_cases h8:hops=8
 · subst h8
   generalize checkE text=n at *;go_enter Tryz.func232,Tryz.ntmps232;go_wp2_with fail;go_ret;exact(show HopIs n b F i left 8 text _ _ _ by unfold HopIs;rw[if_pos (Nat.le_refl 8)];exact⟨by decide,rfl,grown_bel (Below.refl _ _)⟩)
 · have hI:((hops:Int) == 8)=false:=by rw[beq_eq_false_iff_ne];omega
   have H8:=Lib.hid (show ¬8≤hops by omega);(have hle:(hops:Int)≤8:=by omega);have h0:(0:Int)≤(hops:Int):=by omega
   have hW1:WayM b F i vl left (hops+1) sp (w.setCell ⟨b,8,none⟩ (.int .i64 ((hops:Int)+1))) :=
    ⟨(heap_set HW.out.blk).trans (by simp),rd_grown HW.out.lft (grown_set _ _ _) HW.out.far,HW.out.far⟩
   have HT:=Lib.hid (take_any b F i vl left (hops+1) sp text _ hW1 hl ht);generalize checkE text=n at *;clear h8 hW1;go_enter Tryz.func232,Tryz.ntmps232;go_wp2_with fail;refine HT.out.mono ?_;intro e w2 h;have hg:w.grownBy (w.setCell ⟨b,8,none⟩ (.int .i64 ((hops:Int)+1))) (some b):=grown_set _ ⟨b,8,none⟩ _;rcases h with⟨hn,rfl,hg2⟩ | ⟨rfl,vl2,rfl,hw2,hg2⟩
   · go_wp2_with fail
     go_ret;exact(show HopIs n b F i left hops text _ _ _ by unfold HopIs;rw[if_neg H8.out];exact .inl ⟨hn,rfl,grown_tr hg hg2⟩)
   · go_wp2_with fail
     go_ret;exact(show HopIs 0 b F i left hops text _ _ _ by unfold HopIs;rw[if_neg H8.out];exact .inr ⟨rfl,vl2,rfl,hw2,grown_tr hg hg2⟩)
end Go.Proofs.YtmiekcdkamgknaaGreatDoor
