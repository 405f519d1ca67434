import Derived.Test.YtgbmmcnadmfikaaGreatDoorR15
import Derived.Test.YtgbmmcnadmfikaaGreatDoorR16
import Derived.Test.YtgbmmcnadmfikaaGreatDoorR13
import Derived.Deep.DeepCutAuto
import Derived.Test.YtgbmmcnadmfikaaGreatDoorR11
import Derived.Test.YtgbmmcnadmfikaaGreatDoorProg
import Derived.LaidEql
import Derived.Stop.Asserts
import Derived.RowKitTokens
import Derived.Test.YtgbmmcnadmfikaaGreatDoorR12
import Derived.Lib.QuietBelow
import Derived.Deep.DrawnRows
import Derived.Laws.Cover1
import Derived.WalkMore
import Derived.Shelf.Spec.SlicesGrow
import Derived.StillTailTactics
import Derived.Deep.RegionHeld3
import Derived.Deep.RegionLaw
import Derived.Handy
import Derived.Deep.LoopGhost
import Derived.BigQuiet
namespace Go.Proofs.YtgbmmcnadmfikaaGreatDoor
open Go.RowKit Go.Shelf
attribute [local go_sem ↓] Go.wp_at_zero Go.wp_at_succ
theorem code_fresh2 {P:Program}{a:Act}{w:World}{A B:Obj}{c:Code}{K:Exit→Act→World→Prop}(h : ∀W,Below w.heap.size w W→W.heap[w.heap.size]? = some A→W.heap[w.heap.size+1]? = some B→W.heap.size=w.heap.size+2→c.wp P K a W):c.wp P K a ((w.alloc A).alloc B):=fresh2 (P:=fun W=>c.wp P K a W) h
theorem code_fresh3 {P:Program}{a:Act}{w:World}{A B C:Obj}{c:Code}{K:Exit→Act→World→Prop}(h : ∀W,Below w.heap.size w W→W.heap[w.heap.size]? = some A→W.heap[w.heap.size+1]? = some B→W.heap[w.heap.size+2]? = some C→W.heap.size=w.heap.size+3→c.wp P K a W):c.wp P K a (((w.alloc A).alloc B).alloc C):=fresh3 (P:=fun W=>c.wp P K a W) h
def GivesX (X:Nat→Prop)(l:List NodeL)(v:Value)(W:World):Prop:=∃ms,pl ms=l∧RdM W.heap.size v ms W∧∀g,X g→AvoidM g v ms
def NodeX (X:Nat→Prop)(n:NodeL)(vn:Value)(W:World):Prop:=RdNm W.heap.size (n,vn) W∧∀g,X g→Avoid g vn
def Old (X:Nat→Prop)(W:World):Prop:=∀g,X g→g<W.heap.size
theorem GivesX.gives {X:Nat→Prop}{l:List NodeL}{v:Value}{W:World}(h:GivesX X l v W):GivesN l v W:=by
 obtain⟨ms,a,b,_⟩:=h;exact⟨ms,a,b⟩
theorem GivesX.keep {X:Nat→Prop}{l:List NodeL}{v:Value}{W W':World}(h:GivesX X l v W)(hb:Below W.heap.size W W'):GivesX X l v W':=by
 obtain⟨ms,a,b,c⟩:=h;exact⟨ms,a,rdm_keep b hb,c⟩
theorem GivesX.sub {X Y:Nat→Prop}{l:List NodeL}{v:Value}{W:World}(h:GivesX X l v W)(hs : ∀g,Y g→X g):GivesX Y l v W:=by
 obtain⟨ms,a,b,c⟩:=h;exact⟨ms,a,b,fun g hg=>c g (hs g hg)⟩
theorem GivesX.add {X Y:Nat→Prop}{l:List NodeL}{v:Value}{W W':World}(h:GivesX X l v W)(hb:Below W.heap.size W W')(hY : ∀g,Y g→X g∨W.heap.size≤g):GivesX Y l v W':=by
 obtain⟨ms,a,b,c⟩:=h;refine⟨ms,a,rdm_keep b hb,fun g hg=> ?_⟩;rcases hY g hg with h1 | h1
 · exact c g h1
 · exact⟨rd_far b.1 h1,fun x hx=>rd_far (b.2 x hx) h1⟩
theorem GivesX.other {X:Nat→Prop}{l:List NodeL}{v:Value}{b:Nat}{W W':World}(h:GivesX X l v W)(hX:X b)(hs:W'.heap.size=W.heap.size)(hg : ∀g,g≠b→W'.heap[g]? = W.heap[g]?):GivesX X l v W':=by
 obtain⟨ms,a,h1,c⟩:=h;refine⟨ms,a,?_,c⟩;rw[hs];exact rdm_other h1 (c b hX).1 (fun x hx=>(c b hX).2 x hx) hg
theorem NodeX.keep {X:Nat→Prop}{n:NodeL}{vn:Value}{W W':World}(h:NodeX X n vn W)(hb:Below W.heap.size W W'):NodeX X n vn W':=⟨rdnm_keep h.1 hb,h.2⟩
theorem NodeX.sub {X Y:Nat→Prop}{n:NodeL}{vn:Value}{W:World}(h:NodeX X n vn W)(hs : ∀g,Y g→X g):NodeX Y n vn W:=⟨h.1,fun g hg=>h.2 g (hs g hg)⟩
theorem NodeX.add {X Y:Nat→Prop}{n:NodeL}{vn:Value}{W W':World}(h:NodeX X n vn W)(hb:Below W.heap.size W W')(hY : ∀g,Y g→X g∨W.heap.size≤g):NodeX Y n vn W' :=
 ⟨rdnm_keep h.1 hb,fun g hg=>(hY g hg).elim (h.2 g) fun h1=>rd_far h.1 h1⟩
theorem NodeX.other {X:Nat→Prop}{n:NodeL}{vn:Value}{b:Nat}{W W':World}(h:NodeX X n vn W)(hX:X b)(hs:W'.heap.size=W.heap.size)(hg : ∀g,g≠b→W'.heap[g]? = W.heap[g]?):NodeX X n vn W':=by
 refine⟨?_,h.2⟩;rw[hs];exact rd_other h.1 (h.2 b hX) hg
theorem NodeX.zero (X:Nat→Prop)(W:World):NodeX X zeroN (.slice none 0 0) W:=⟨Rd.none0 _ _ _,fun g _ a n c e _=>by cases e⟩
theorem NodeX.same {X:Nat→Prop}{n m:NodeL}{vn:Value}{W:World}(h:NodeX X n vn W)(e:m.names=n.names):NodeX X m vn W:=by
 refine⟨?_,h.2⟩;have h1:=h.1;unfold RdNm at h1 ⊢;rw[e];exact h1
theorem Old.keep {X:Nat→Prop}{W W':World}(h:Old X W)(hb:W.heap.size≤W'.heap.size):Old X W':=fun g hg=>Nat.lt_of_lt_of_le (h g hg) hb
theorem gives_form {X:Nat→Prop}{l:List NodeL}{v:Value}{W:World}(h:GivesX X l v W) : ∃ao cap,v = .slice ao l.length cap:=by
 obtain⟨ms,rfl,hv,_⟩:=h;obtain⟨ao,cap,e,_,_⟩:=rdm_form hv;exact⟨ao,cap,by rw[pl_len];exact e⟩
theorem node_form {X:Nat→Prop}{n:NodeL}{v:Value}{W:World}(h:NodeX X n v W) : ∃ao cap,v = .slice ao n.names.length cap:=by
 obtain⟨ao,cap,e,_,_⟩:=Rd.form h.1;exact⟨ao,cap,e⟩
def RDiskIs (X:Nat→Prop)(l:List NodeL)(most room:Int)(e:Ending)(w w':World):Prop :=
 ∃ao cap,e = .returned (.agg #[.slice ao l.length cap, .int .i64 most, .int .i64 room])∧GivesX X l (.slice ao l.length cap) w'∧Below w.heap.size w w'
def RGetX (v:Value)(ms:List NodeM)(i:Int)(e:Ending)(W W':World):Prop :=
 ∃vn,e = .returned (.tuple #[nval (getL (pl ms) i) vn, .bool (gotB (pl ms) i)])∧RdNm W'.heap.size (getL (pl ms) i,vn) W'∧Below W.heap.size W W'∧∀g,AvoidM g v ms→Avoid g vn
theorem getx_no {v:Value}{ms:List NodeM}{i:Int}{w W:World}(h:gotB (pl ms) i=false)(hb:Below w.heap.size w W):RGetX v ms i (.returned (.tuple #[.agg #[.int .i64 0, .int .i64 0, .int .i64 0, .int .i64 0, .int .i64 0, .int .i64 0, .string ⟨#[]⟩, .slice none 0 0], .bool false])) w W :=
 ⟨.slice none 0 0,by unfold getL;rw[h];rfl,by unfold getL;rw[h];exact Rd.none0 _ _ _,hb,fun g _ a n c e _=>by cases e⟩
set_option maxRecDepth 100000 in
set_option maxHeartbeats 2000000 in
theorem rgetx_any (v:Value)(ms:List NodeM)(most room i:Int)(w:World)(hv:RdM w.heap.size v ms w)(hl:ms.length≤10000) :
 Calls Tryz.prog 36 #[.agg #[v, .int .i64 most, .int .i64 room], .int .i64 i] w fun e w'=>RGetX v ms i e w w':=by
 obtain⟨ao,cap,rfl,_,_⟩:=rdm_form hv;have HV:=Lib.hid hv;have HL:=Lib.hid hl;clear hv
 have hret : ∀(W:World) (cs:Array Value) (fr),W.heap[w.heap.size+1]? = some (.cells cs 104 fr)→cs.size=8→∀tmps:Array Value,tmps.getD 4 undef = .pointer (some ⟨w.heap.size+1,0,none⟩)→(results Tryz.f36 tmps).run Tryz.prog W = .ok (.tuple #[.agg cs,tmps.getD 5 undef]) W:=fun W cs fr h hs tmps ht =>
  results_ct (p:=4) (u:=5) (ty:=104) rfl tmps W (w.heap.size+1) _ cs fr _ ht h Tryz.underlying104 rfl (by rw[hs];kernel_rfl)
 (have no : ∀W:World,gotB (pl ms) i=false→Below w.heap.size w W→RGetX (.slice ao ms.length cap) ms i (.returned (.tuple #[.agg #[.int .i64 0, .int .i64 0, .int .i64 0, .int .i64 0, .int .i64 0, .int .i64 0, .string ⟨#[]⟩, .slice none 0 0], .bool false])) w W:=fun _ h hb=>getx_no h hb);have HNO:=Lib.hid no;clear no;by_cases h1:i<0
 · have hI:decide (i<0)=true:=by simpa using h1
   have HG:Hid (gotB (pl ms) i=false):=Lib.hid (by unfold gotB inL;rw[show decide (0≤i)=false by simp;omega];rfl);clear h1;go_enter Tryz.func36,Tryz.ntmps36;go_wp2_with fail;refine fresh2 (P:=fun W=>bodyPost _ _ _ _ _ W) ?_;intro W0 hb0 hP hQ hs0;refine bodyPost_ret (hret _ _ _ hQ rfl _ rfl) rfl ?_;exact HNO.out _ HG.out hb0
 (have g1:decide (i<0)=false:=by simpa using h1);by_cases h2:(ms.length:Int)≤i
 · have hI:decide ((ms.length:Int)≤i)=true:=by simpa using h2
   have HG:Hid (gotB (pl ms) i=false):=Lib.hid (by unfold gotB inL;rw[show decide (i<(pl ms).length)=false by rw[pl_len];simpa using h2];simp);clear h1 h2;go_enter Tryz.func36,Tryz.ntmps36;go_wp2_with fail;refine fresh2 (P:=fun W=>bodyPost _ _ _ _ _ W) ?_;intro W0 hb0 hP hQ hs0;refine bodyPost_ret (hret _ _ _ hQ rfl _ rfl) rfl ?_;exact HNO.out _ HG.out hb0
 (have g2:decide ((ms.length:Int)≤i)=false:=by simpa using h2);obtain⟨k,rfl,hk⟩ : ∃k:Nat,i=k∧k<ms.length:=⟨i.toNat,by omega,by omega⟩;have hin:=nat_in (l:=pl ms) (k:=k) (by rw[pl_len];exact hk);have hat:=at_nat (pl ms) k (by rw[pl_len];exact hk);(have k0:(0:Int)≤(k:Int):=by omega);(have k1:(k:Int)<(ms.length:Int):=by omega);obtain⟨b,off,n,aon,capn,rfl,hb,hn,hmk,hrn,c0,c1,c2,c3,c4,c5,c6,c7⟩:=node_at HV.out k hk;rw[hn]at hat;by_cases h0:n.kind=0
 · have hd:(n.kind == 0)=true:=by simpa using h0
   have HG:Hid (gotB (pl ms) k=false):=Lib.hid (by unfold gotB;rw[hat];simp[h0]);clear h0 h1 h2 hin hat hn hrn;(try clear hmk);go_enter Tryz.func36,Tryz.ntmps36;go_wp2_with fail;refine fresh2 (P:=fun W=>bodyPost _ _ _ _ _ W) ?_;intro W0 hb0 hP hQ hs0;refine bodyPost_ret (hret _ _ _ hQ rfl _ rfl) rfl ?_;exact HNO.out _ HG.out hb0
 · have hd:(n.kind == 0)=false:=by simpa using h0
   have HG:Hid (gotB (pl ms) k=true):=Lib.hid (by unfold gotB;rw[hat,hin];simp[h0]);have HGe:Hid (getL (pl ms) k=n):=Lib.hid (by unfold getL;rw[HG.out,hat];rfl);have HR:=Lib.hid hrn;(have HA:Hid (∀g,AvoidM g (.slice (some ⟨b,off,none⟩) ms.length cap) ms→Avoid g (.slice aon n.names.length capn)):=Lib.hid fun g hg=>by have:=hg.2 _ (List.getElem_mem hk);rw[hmk]at this;exact this);clear hmk;clear h0 h1 h2 hin hat hn hrn;(try clear hmk);go_enter Tryz.func36,Tryz.ntmps36;go_wp2_with fail;refine fresh2 (P:=fun W=>bodyPost _ _ _ _ _ W) ?_;intro W0 hb0 hP hQ hs0;refine bodyPost_ret (hret _ _ _ hQ rfl _ rfl) rfl ?_;exact⟨.slice aon n.names.length capn,by rw[HGe.out,HG.out];rfl,by rw[HGe.out];exact rd_keep HR.out hb0,hb0,HA.out⟩
theorem rget_g (X:Nat→Prop)(l:List NodeL)(most room i:Int)(v:Value)(W:World)(hg:GivesX X l v W)(hl:l.length≤10000) :
 Calls Tryz.prog 36 #[.agg #[v, .int .i64 most, .int .i64 room], .int .i64 i] W fun e w'=>∃ao cap,e = .returned (.tuple #[nval (nodeL l i) (.slice ao (nodeL l i).names.length cap), .bool (gotB l i)])∧NodeX X (nodeL l i) (.slice ao (nodeL l i).names.length cap) w'∧Below W.heap.size W w':=by
 obtain⟨m,rfl,h,ha⟩:=hg;refine(rgetx_any v m most room i W h (by rw[←pl_len];exact hl)).mono ?_;rintro e w' ⟨v1,rfl,hr,hb,hav⟩;(have hgl:getL (pl m) i=nodeL (pl m) i:=by unfold getL nodeL;cases gotB (pl m) i<;>rfl);rw[hgl]at hr ⊢;have hN:NodeX X (nodeL (pl m) i) v1 w':=⟨hr,fun g hx=>hav g (ha g hx)⟩;obtain⟨ao,cap,rfl⟩:=node_form hN;exact⟨ao,cap,rfl,hN,hb⟩
end Go.Proofs.YtgbmmcnadmfikaaGreatDoor
namespace Go.Proofs.YtgbmmcnadmfikaaGreatDoor
open Go.RowKit Go.Shelf Go.Lib Go.Extern.Stop Go.Stop Go.Extern
abbrev faultV (n:Int):Value:= .iface 297 (.int .i64 n)
abbrev errTypeV:Value:= .iface 208 (.agg #[.pointer (some ⟨15,94,none⟩)])
abbrev hdl (t:TypeId):Value:= .pointer (some ⟨15,t,none⟩)
abbrev rtV (t:TypeId):Value:= .iface 208 (.agg #[hdl t])
theorem asMethodKind (h:Value)(w:World):(Go.method 476 208 (.agg #[h]) "Kind").run Tryz.prog w = .ok (271,h) w:=by kernel_rfl
theorem rlm (z:Sem Value)(f:TypeId→Addr→Nat→Nat→Sem Value)(v:Value) :
 ReflectliteValue.method z f #[v]=(do match ←ReflectliteValue.parts v with | none=>z | some (t,a,fl)=>f t a fl (fl % 32)):=rfl
theorem asMethodElem (h:Value)(w:World):(Go.method 476 208 (.agg #[h]) "Elem").run Tryz.prog w = .ok (281, .agg #[h]) w:=by kernel_rfl
theorem asMethodImplements (h:Value)(w:World):(Go.method 476 208 (.agg #[h]) "Implements").run Tryz.prog w = .ok (282, .agg #[h]) w:=by kernel_rfl
theorem asMethodAssignableTo (h:Value)(w:World):(Go.method 476 208 (.agg #[h]) "AssignableTo").run Tryz.prog w = .ok (279, .agg #[h]) w:=by kernel_rfl
theorem rls (v x:Value):ReflectliteValue.set #[v,x]=(do
 let (some (dst,a,fl),some (src,b,_)):=(←ReflectliteValue.parts v,←ReflectliteValue.parts x)
  | unsupported (.noEntry "extern/(internal/reflectlite.Value).Set.zeroValue")
 if fl / ReflectliteValue.flagAddr % 2 == 0 then unsupported (.noEntry "extern/(internal/reflectlite.Value).Set.unaddressable")
 let val ←loadVar src b
 if ←Rtype.directlyAssignable dst src then storeVar dst a val
 else if ←Rtype.implements dst src then
  if(←Rtype.kind src) == 20 then
   match val with
   | .nilIface=>unsupported (.noEntry "extern/reflectlite: a nil value of one interface type handed on as a value of another")
   | _=>storeVar dst a val
  else storeVar dst a (.iface src val)
 else panicString ("reflectlite.Set: value of type " ++ (←Rtype.spelt src)++ " is not assignable to type " ++ (←Rtype.spelt dst))
 pure (.tuple #[])):=rfl
def AsIs (t:Addr)(n:Int)(e:Ending)(w w':World):Prop:=e = .returned (.bool true)∧w'.cell? t=some (.int .i64 n)∧w.grownBy w' (some t.block)
theorem grown_set (w:World)(a:Addr)(u:Value):w.grownBy (w.setCell a u) (some a.block) :=
 ⟨rfl,rfl,rfl,by simp[World.setCell],fun k _ hne=>Below.heap_setCell _ _ _ _ (fun e=>hne (by rw[e]))⟩
theorem grown_tr {a b c:World}{row:Option Nat}(h:a.grownBy b row)(k:b.grownBy c row):a.grownBy c row :=
 ⟨k.os.trans h.os,k.tape.trans h.tape,k.output.trans h.output,Nat.le_trans h.size k.size,fun i hi hne=>(k.block i (Nat.lt_of_lt_of_le hi h.size) hne).trans (h.block i hi hne)⟩
theorem grown_bel {a b:World}{row:Option Nat}(h:Below a.heap.size a b):a.grownBy b row:=⟨h.os,h.tape,h.output,h.size,fun i hi _=>h.block i hi⟩
theorem as_is {t:Addr}{n:Int}{old:Value}{w W:World}(hg:Below w.heap.size w W)(ht0:w.cell? t=some old):AsIs t n (.returned (.bool true)) w (W.setCell t (.int .i64 n)):=by
 have htl:=World.block_lt_of_cell? w t ht0;have hc:W.cell? t=some old:=(hg.cell htl).trans ht0;exact⟨rfl,World.cell?_setCell_same _ _ _ hc,grown_tr (grown_bel hg) (grown_set _ _ _)⟩
def NumIs (n:Int)(e:Ending)(w w':World):Prop:=e = .returned (.int .i64 n)∧Below w.heap.size w w'
end Go.Proofs.YtgbmmcnadmfikaaGreatDoor
namespace Go.Proofs.YtgbmmcnadmfikaaGreatDoor
open Go.RowKit Go.Shelf
attribute [local go_sem ↓] Go.wp_at_zero Go.wp_at_succ
structure WayF where
 nodes:Value
 most:Int
 room:Int
 who:Int
 follow:Bool
 slash:Bool
abbrev wcells (F:WayF)(i:Int)(vl:Value)(hops:Int)(sp:SpotL):Array Value :=
 #[F.nodes, .int .i64 F.most, .int .i64 F.room, .int .i64 F.who, .bool F.follow, .bool F.slash, .int .i64 i,vl, .int .i64 hops, .int .i64 sp.dir, .string (bs sp.name), .int .i64 sp.ino, .bool sp.slash]
structure WayM (b:Nat) (F:WayF) (i:Int) (vl:Value) (left:List Str) (hops:Nat) (sp:SpotL) (W:World):Prop where
 blk:W.heap[b]? = some (.cells (wcells F i vl hops sp) 273 (0,0))
 lft:Rd W.heap.size 1 vl left.length (strs left) W
 far:vl.ownBlock≠some b
theorem WayM.lt {b:Nat}{F:WayF}{i:Int}{vl:Value}{left:List Str}{hops:Nat}{sp:SpotL}{W:World}(h:WayM b F i vl left hops sp W):b<W.heap.size:=(Array.getElem?_eq_some_iff.1 h.blk).1
theorem WayM.keep {b:Nat}{F:WayF}{i:Int}{vl:Value}{left:List Str}{hops:Nat}{sp:SpotL}{W W':World}(h:WayM b F i vl left hops sp W)(hb:Below W.heap.size W W'):WayM b F i vl left hops sp W' :=
 ⟨(hb.block b h.lt).trans h.blk,rd_keep h.lft hb,h.far⟩
def Wrong (n:Int)(b:Nat)(e:Ending)(w w':World):Prop:=n≠0∧e = .returned (faultV n)∧w.grownBy w' (some b)
def GoesOn (b:Nat)(F:WayF)(i:Int)(left:List Str)(hops:Nat)(sp:SpotL)(e:Ending)(w w':World):Prop:=∃vl,e = .returned .nilIface∧WayM b F i vl left hops sp w'∧w.grownBy w' (some b)
end Go.Proofs.YtgbmmcnadmfikaaGreatDoor
namespace Go.Proofs.YtgbmmcnadmfikaaGreatDoor
open Go.RowKit Go.Shelf
attribute [local go_sem ↓] Go.wp_at_zero Go.wp_at_succ
structure DskOk (ms:List NodeM):Prop where
 len:ms.length≤10000
 nms : ∀n∈pl ms,n.names.length≤10000
 right:RightP (pl ms)
theorem DskOk.names {ms:List NodeM}(hd:DskOk ms)(i:Int):(nodeL (pl ms) i).names.length≤10000:=by
 cases hg:gotB (pl ms) i with
 | false=>unfold nodeL;rw[hg];exact Nat.zero_le _
 | true =>
    obtain⟨k,rfl,hlt,hn,_,_⟩:=right_ok hd.right hg;rw[hn];exact hd.nms _ (List.getElem_mem hlt)
end Go.Proofs.YtgbmmcnadmfikaaGreatDoor
namespace Go.Proofs.YtgbmmcnadmfikaaGreatDoor
open Go.RowKit Go.Shelf
attribute [local go_sem ↓] Go.wp_at_zero Go.wp_at_succ
def finL (l:List NodeL)(F:WayF)(i:Int)(left:List Str)(hops:Nat)(sp:SpotL):ResL:=if left = []then(sp,0)else goW l F.who F.follow F.slash i left hops
def StepIs (l:List NodeL)(b:Nat)(F:WayF)(M:Nat)(R:ResL)(e:Ending)(w w':World):Prop :=
 (∃n,R=(zeroS,n)∧Wrong n b e w w')∨(∃i left hops sp,GoesOn b F i left hops sp e w w'∧finL l F i left hops sp=R∧hops≤8∧(8-hops)*101+left.length<M)
theorem StepIs.from {l:List NodeL}{b:Nat}{F:WayF}{M:Nat}{R:ResL}{e:Ending}{w w0 w':World}(hg:w.grownBy w0 (some b))(h:StepIs l b F M R e w0 w'):StepIs l b F M R e w w':=by
 rcases h with⟨n,h1,h2,h3,h4⟩ | ⟨i,left,hops,sp,⟨vl,h1,h2,h3⟩,h4⟩
 · exact .inl ⟨n,h1,h2,h3,grown_tr hg h4⟩
 · exact .inr ⟨i,left,hops,sp,⟨vl,h1,h2,grown_tr hg h3⟩,h4⟩
end Go.Proofs.YtgbmmcnadmfikaaGreatDoor
namespace Go.Proofs.YtgbmmcnadmfikaaGreatDoor
open Go.RowKit Go.Shelf
attribute [local go_sem ↓] Go.wp_at_zero Go.wp_at_succ
structure DskW (ms:List NodeM):Prop where
 ok:DskOk ms
 dat : ∀n∈pl ms,n.data.length≤10000
theorem DskW.len {ms:List NodeM}(hd:DskW ms)(i:Int):(nodeL (pl ms) i).data.length≤10000:=by
 cases hg:gotB (pl ms) i with
 | false=>unfold nodeL;rw[hg];exact Nat.zero_le _
 | true =>
    obtain⟨k,rfl,hlt,hn,_,_⟩:=right_ok hd.ok.right hg;rw[hn];exact hd.dat _ (List.getElem_mem hlt)
theorem fresh1d {P:World→Prop}{w:World}{A:Obj}(h : ∀W,Below w.heap.size w W→W.heap[w.heap.size]? = some A→W.heap.size=w.heap.size+1→P W):P (w.alloc A).drew :=
 h _ ((Below.refl _ w).alloc (Nat.le_refl _) _).drew (heap_alloc_new w A) (by simp)
end Go.Proofs.YtgbmmcnadmfikaaGreatDoor
namespace Go.Proofs.YtgbmmcnadmfikaaGreatDoor
open Go.RowKit Go.Shelf
attribute [local go_sem ↓] Go.wp_at_zero Go.wp_at_succ
theorem code_set1 {P:Program}{a:Act}{w:World}{c:Code}{K:Exit→Act→World→Prop}{b i:Nat}{u:Value}{cs:Array Value}{t:TypeId}(hb:w.heap[b]? = some (.cells cs t (0,0)))
 (h : ∀W',Below b w W'→(∀g,g≠b→W'.heap[g]? = w.heap[g]?)→W'.heap.size=w.heap.size→W'.heap[b]? = some (.cells (cs.setIfInBounds i u) t (0,0))→c.wp P K a W'):c.wp P K a (w.setCell ⟨b,i,none⟩ u) :=
  h _ ((Below.refl b w).setCell (p:=⟨b,i,none⟩) (Nat.le_refl _) u) (fun g hg=>Below.heap_setCell _ _ _ g hg) (by simp[World.setCell]) (heap_set hb)
abbrev diskV (ao:Option Addr)(n cap:Nat)(most room:Int):Value:= .agg #[.slice ao n cap, .int .i64 most, .int .i64 room]
end Go.Proofs.YtgbmmcnadmfikaaGreatDoor
namespace Go.Proofs.YtgbmmcnadmfikaaGreatDoor
open Go.RowKit Go.Shelf
attribute [local go_sem ↓] Go.wp_at_zero Go.wp_at_succ
abbrev And1 (X:Nat→Prop)(b:Nat):Nat→Prop:=fun g=>X g∨g=b
theorem Old.and {X:Nat→Prop}{b:Nat}{W:World}(h:Old X W)(hb:b<W.heap.size):Old (And1 X b) W:=fun g hg=>hg.elim (h g) fun(e:g=b)=>by rw[e];exact hb
theorem GivesX.and {X:Nat→Prop}{b:Nat}{l:List NodeL}{v:Value}{W W':World}(h:GivesX X l v W)(hb:Below W.heap.size W W')(hn:W.heap.size≤b):GivesX (And1 X b) l v W':=h.add hb fun g hg=>hg.imp id fun(e:g=b)=>by rw[e];exact hn
theorem NodeX.and {X:Nat→Prop}{b:Nat}{n:NodeL}{v:Value}{W W':World}(h:NodeX X n v W)(hb:Below W.heap.size W W')(hn:W.heap.size≤b):NodeX (And1 X b) n v W':=h.add hb fun g hg=>hg.imp id fun(e:g=b)=>by rw[e];exact hn
end Go.Proofs.YtgbmmcnadmfikaaGreatDoor
namespace Go.Proofs.YtgbmmcnadmfikaaGreatDoor
open Go.RowKit Go.Shelf
abbrev Bl:=Nat × Array Value × TypeId
def Xo (X:Nat→Prop)(L:List Nat):Nat→Prop:=fun g=>X g∨g∈L
structure St (X:Nat→Prop) (w:World) (B:List Bl) (G:List (List NodeL × Value)) (N:List (NodeL × Value)) (W:World):Prop where
 bel:Below w.heap.size w W
 old:Old X w
 blk : ∀x∈B,W.heap[x.1]? = some (.cells x.2.1 x.2.2 (0,0))∧w.heap.size≤x.1
 nd:(B.map (·.1)).Nodup
 gv : ∀x∈G,GivesX (Xo X (B.map (·.1))) x.1 x.2 W
 nv : ∀x∈N,NodeX (Xo X (B.map (·.1))) x.1 x.2 W
theorem fresh4 {P:World→Prop}{w:World}{A0 A1 A2 A3:Obj}(h : ∀W,Below w.heap.size w W→W.heap[w.heap.size]? = some A0→W.heap[w.heap.size+1]? = some A1→W.heap[w.heap.size+2]? = some A2→W.heap[w.heap.size+3]? = some A3→W.heap.size=w.heap.size+4→P W):P ((((w.alloc A0).alloc A1).alloc A2).alloc A3) :=
 fresh3 (P:=fun W=>P (W.alloc A3)) fun W1 b1 h0 h1 h2 s1=>fresh1 fun W2 b2 hn s2=>h W2 (ret_tr b1 b2) ((b2.block _ (by omega)).trans h0) ((b2.block _ (by omega)).trans h1) ((b2.block _ (by omega)).trans h2) (by rw[s1]at hn;exact hn) (by omega)
theorem code_fresh4 {P:Program}{a:Act}{w:World}{A0 A1 A2 A3:Obj}{c:Code}{K:Exit→Act→World→Prop}(h : ∀W,Below w.heap.size w W→W.heap[w.heap.size]? = some A0→W.heap[w.heap.size+1]? = some A1→W.heap[w.heap.size+2]? = some A2→W.heap[w.heap.size+3]? = some A3→W.heap.size=w.heap.size+4→c.wp P K a W):c.wp P K a ((((w.alloc A0).alloc A1).alloc A2).alloc A3):=fresh4 (P:=fun W=>c.wp P K a W) h
section
variable {X:Nat→Prop} {w W W':World} {B:List Bl} {G:List (List NodeL × Value)} {N:List (NodeL × Value)}
theorem St.lt (h:St X w B G N W){x:Bl}(hx:x∈B):x.1<W.heap.size:=(Array.getElem?_eq_some_iff.1 (h.blk x hx).1).1
theorem St.start (hX:Old X w)(hG : ∀x∈G,GivesX X x.1 x.2 w)(hN : ∀x∈N,NodeX X x.1 x.2 w):St X w [] G N w :=
 ⟨Below.refl _ _,hX,(fun _ h=>by cases h),List.nodup_nil,fun x hx=>(hG x hx).sub (Y:=Xo X []) fun g hg=>hg.elim id (fun h=>by cases h),fun x hx=>(hN x hx).sub (Y:=Xo X []) fun g hg=>hg.elim id (fun h=>by cases h)⟩
theorem St.call (h:St X w B G N W)(hb:Below W.heap.size W W'):St X w B G N W' :=
 ⟨ret_tr h.bel hb,h.old,fun x hx=>⟨(hb.block _ (h.lt hx)).trans (h.blk x hx).1,(h.blk x hx).2⟩,h.nd,fun x hx=>(h.gv x hx).keep hb,fun x hx=>(h.nv x hx).keep hb⟩
theorem St.oldX (h:St X w B G N W):Old (Xo X (B.map (·.1))) W:=fun g hg=>by
 rcases hg with hg | hg
 · exact Nat.lt_of_lt_of_le (h.old g hg) h.bel.size
 · obtain⟨x,hx,rfl⟩:=List.mem_map.1 hg
   exact h.lt hx
theorem St.news (h:St X w B G N W)(hb:Below W.heap.size W W')(C:List Bl)(hC : ∀x∈C,W'.heap[x.1]? = some (.cells x.2.1 x.2.2 (0,0))∧W.heap.size≤x.1)(hn:(C.map (·.1)).Nodup):St X w (B++C) G N W':=by
 have hY : ∀g,Xo X ((B++C).map (·.1)) g→Xo X (B.map (·.1)) g∨W.heap.size≤g:=fun g hg=>by
  rcases hg with hg | hg
  · exact .inl (.inl hg)
  · rw[List.map_append,List.mem_append]at hg
    rcases hg with hg | hg
    · exact .inl (.inr hg)
    · obtain⟨x,hx,rfl⟩:=List.mem_map.1 hg
      exact .inr (hC x hx).2
 refine⟨ret_tr h.bel hb,h.old,fun x hx=> ?_,?_,fun x hx=>(h.gv x hx).add hb hY,fun x hx=>(h.nv x hx).add hb hY⟩
 · rcases List.mem_append.1 hx with hx | hx
   · exact⟨(hb.block _ (h.lt hx)).trans (h.blk x hx).1,(h.blk x hx).2⟩
   · exact⟨(hC x hx).1,Nat.le_trans h.bel.size (hC x hx).2⟩
 · rw[List.map_append,List.nodup_append]
   refine⟨h.nd,hn,fun a ha b hb2 e=> ?_⟩;obtain⟨x,hx,rfl⟩:=List.mem_map.1 ha;obtain⟨y,hy,rfl⟩:=List.mem_map.1 hb2;have:=h.lt hx;have:=(hC y hy).2;omega
theorem St.new1 (h:St X w B G N W)(hb:Below W.heap.size W W'){cs0:Array Value}{t0:TypeId}(h0:W'.heap[W.heap.size]? = some (.cells cs0 t0 (0,0))) :
 St X w (B++ [(W.heap.size,cs0,t0)]) G N W' :=
 h.news hb _ (fun x hx=>by
  simp only[List.mem_cons,List.not_mem_nil,or_false]at hx;rcases hx with rfl
  · exact⟨h0,Nat.le_refl _⟩) (by simp)
theorem St.new2 (h:St X w B G N W)(hb:Below W.heap.size W W'){cs0 cs1:Array Value}{t0 t1:TypeId}(h0:W'.heap[W.heap.size]? = some (.cells cs0 t0 (0,0)))(h1:W'.heap[W.heap.size+1]? = some (.cells cs1 t1 (0,0))) :
 St X w (B++ [(W.heap.size,cs0,t0),(W.heap.size+1,cs1,t1)]) G N W' :=
 h.news hb _ (fun x hx=>by
  simp only[List.mem_cons,List.not_mem_nil,or_false]at hx;rcases hx with rfl | rfl
  · exact⟨h0,Nat.le_refl _⟩
  · exact⟨h1,Nat.le_add_right _ _⟩) (by simp)
theorem St.new3 (h:St X w B G N W)(hb:Below W.heap.size W W'){cs0 cs1 cs2:Array Value}{t0 t1 t2:TypeId}(h0:W'.heap[W.heap.size]? = some (.cells cs0 t0 (0,0)))(h1:W'.heap[W.heap.size+1]? = some (.cells cs1 t1 (0,0)))(h2:W'.heap[W.heap.size+2]? = some (.cells cs2 t2 (0,0))) :
 St X w (B++ [(W.heap.size,cs0,t0),(W.heap.size+1,cs1,t1),(W.heap.size+2,cs2,t2)]) G N W' :=
 h.news hb _ (fun x hx=>by
  simp only[List.mem_cons,List.not_mem_nil,or_false]at hx;rcases hx with rfl | rfl | rfl
  · exact⟨h0,Nat.le_refl _⟩
  · exact⟨h1,Nat.le_add_right _ _⟩
  · exact⟨h2,Nat.le_add_right _ _⟩) (by simp)
theorem St.new4 (h:St X w B G N W)(hb:Below W.heap.size W W'){cs0 cs1 cs2 cs3:Array Value}{t0 t1 t2 t3:TypeId}(h0:W'.heap[W.heap.size]? = some (.cells cs0 t0 (0,0)))(h1:W'.heap[W.heap.size+1]? = some (.cells cs1 t1 (0,0)))(h2:W'.heap[W.heap.size+2]? = some (.cells cs2 t2 (0,0)))(h3:W'.heap[W.heap.size+3]? = some (.cells cs3 t3 (0,0))) :
 St X w (B++ [(W.heap.size,cs0,t0),(W.heap.size+1,cs1,t1),(W.heap.size+2,cs2,t2),(W.heap.size+3,cs3,t3)]) G N W' :=
 h.news hb _ (fun x hx=>by
  simp only[List.mem_cons,List.not_mem_nil,or_false]at hx;rcases hx with rfl | rfl | rfl | rfl
  · exact⟨h0,Nat.le_refl _⟩
  · exact⟨h1,Nat.le_add_right _ _⟩
  · exact⟨h2,Nat.le_add_right _ _⟩
  · exact⟨h3,Nat.le_add_right _ _⟩) (by simp)
theorem St.at (h:St X w B G N W)(k:Nat){b:Nat}{cs:Array Value}{t:TypeId}(hk:B[k]? = some (b,cs,t)):W.heap[b]? = some (.cells cs t (0,0)):=(h.blk _ (List.mem_of_getElem? hk)).1
theorem St.own (h:St X w B G N W)(k:Nat){b:Nat}{cs:Array Value}{t:TypeId}(hk:B[k]? = some (b,cs,t)):w.heap.size≤b∧b<W.heap.size:=⟨(h.blk _ (List.mem_of_getElem? hk)).2,h.lt (List.mem_of_getElem? hk)⟩
theorem map_set_same {L:List Bl}{k b:Nat}{cs cs':Array Value}{t:TypeId}(hk:L[k]? = some (b,cs,t)):(L.set k (b,cs',t)).map (·.1)=L.map (·.1):=by
 apply List.ext_getElem?;intro j;rw[List.getElem?_map,List.getElem?_map,List.getElem?_set];by_cases e:k=j
 · subst e
   rw[if_pos rfl,hk];have:=(List.getElem?_eq_some_iff.1 hk).1;rw[if_pos this];rfl
 · rw[if_neg e]
theorem St.set (h:St X w B G N W)(k:Nat){b:Nat}{cs cs':Array Value}{t:TypeId}(hk:B[k]? = some (b,cs,t))(hb:Below b W W')(hg : ∀g,g≠b→W'.heap[g]? = W.heap[g]?)(hs:W'.heap.size=W.heap.size)(hn:W'.heap[b]? = some (.cells cs' t (0,0))) :
 St X w (B.set k (b,cs',t)) G N W':=by
 have hm:=map_set_same (cs':=cs') hk;have hkl:=(List.getElem?_eq_some_iff.1 hk).1;have hXb:Xo X (B.map (·.1)) b:= .inr (List.mem_map.2 ⟨_,List.mem_of_getElem? hk,rfl⟩);have hwb:=(h.own k hk).1;refine⟨h.bel.trans (hb.mono hwb),h.old,fun x hx=> ?_,by rw[hm];exact h.nd,fun x hx=>by rw[hm];exact(h.gv x hx).other hXb hs hg,fun x hx=>by rw[hm];exact(h.nv x hx).other hXb hs hg⟩;obtain⟨j,hj⟩:=List.mem_iff_getElem?.1 hx;rw[List.getElem?_set]at hj;by_cases e:k=j
 · subst e
   rw[if_pos rfl,if_pos hkl]at hj;obtain rfl:=Option.some.inj hj;exact⟨hn,hwb⟩
 · rw[if_neg e]at hj
   have hne:x.1≠b:=fun e2=>by
    (have h1:(B.map (·.1))[k]? = some b:=by rw[List.getElem?_map,hk];rfl);(have h2:(B.map (·.1))[j]? = some b:=by rw[List.getElem?_map,hj,←e2];rfl);(have hkl':k<(B.map (·.1)).length:=by simpa using hkl);exact e ((List.getElem?_inj hkl' h.nd).1 (h1.trans h2.symm))
   exact⟨(hg _ hne).trans (h.blk x (List.mem_of_getElem? hj)).1,(h.blk x (List.mem_of_getElem? hj)).2⟩
theorem St.addG (h:St X w B G N W){l:List NodeL}{v:Value}(hg:GivesX (Xo X (B.map (·.1))) l v W):St X w B (G++ [(l,v)]) N W :=
 ⟨h.bel,h.old,h.blk,h.nd,fun x hx=>by
  rcases List.mem_append.1 hx with hx | hx
  · exact h.gv x hx
  · rw[List.mem_singleton]at hx;subst hx;exact hg,h.nv⟩
theorem St.addN (h:St X w B G N W){n:NodeL}{v:Value}(hn:NodeX (Xo X (B.map (·.1))) n v W):St X w B G (N++ [(n,v)]) W :=
 ⟨h.bel,h.old,h.blk,h.nd,h.gv,fun x hx=>by
  rcases List.mem_append.1 hx with hx | hx
  · exact h.nv x hx
  · rw[List.mem_singleton]at hx;subst hx;exact hn⟩
theorem St.less (h:St X w B G N W){G':List (List NodeL × Value)}{N':List (NodeL × Value)}(hG : ∀x∈G',x∈G)(hN : ∀x∈N',x∈N):St X w B G' N' W :=
 ⟨h.bel,h.old,h.blk,h.nd,fun x hx=>h.gv x (hG x hx),fun x hx=>h.nv x (hN x hx)⟩
theorem St.g (h:St X w B G N W)(k:Nat){l:List NodeL}{v:Value}(hk:G[k]? = some (l,v)):GivesX (Xo X (B.map (·.1))) l v W:=h.gv _ (List.mem_of_getElem? hk)
theorem St.n (h:St X w B G N W)(k:Nat){n:NodeL}{v:Value}(hk:N[k]? = some (n,v)):NodeX (Xo X (B.map (·.1))) n v W:=h.nv _ (List.mem_of_getElem? hk)
theorem St.gX (h:St X w B G N W)(k:Nat){l:List NodeL}{v:Value}(hk:G[k]? = some (l,v)):GivesX X l v W:=(h.g k hk).sub fun _ hg=> .inl hg
end
end Go.Proofs.YtgbmmcnadmfikaaGreatDoor
