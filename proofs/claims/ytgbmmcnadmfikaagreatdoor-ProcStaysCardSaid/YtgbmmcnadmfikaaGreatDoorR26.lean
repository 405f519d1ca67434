import Derived.Test.YtgbmmcnadmfikaaGreatDoorR25
import Derived.Test.YtgbmmcnadmfikaaGreatDoorR23
import Derived.Deep.RegionHeld3
import Derived.Deep.DeepCutAuto
import Derived.Test.YtgbmmcnadmfikaaGreatDoorR16
namespace Go.Proofs.YtgbmmcnadmfikaaGreatDoor
open Go.RowKit Go.Shelf
attribute [local go_sem ↓] Go.wp_at_zero Go.wp_at_succ
structure SmallK (k:KernL):Prop where
 most:k.most≤100
 room:k.room≤1000
 nodes:k.l.length≤100
 each : ∀q:Nat,q<k.l.length→(nd k.l q).data.length≤1200∧(nd k.l q).names.length≤100
 ds:k.t.ds.length≤100
 fs:k.t.fs.length≤20
 rows : ∀r∈k.t.fs,r.length≤20
 ps:k.ps.length≤20
def SmallIs (k:KernL)(e:Ending)(w w':World):Prop:=∃b,e = .returned (.bool b)∧(b=true→SmallK k)∧Below w.heap.size w w'
theorem SmallK.node {k:KernL}(h:SmallK k) : ∀n∈k.l,n.data.length≤1200∧n.names.length≤100:=fun n hn=>by
 obtain⟨q,hq,rfl⟩:=List.mem_iff_getElem.1 hn;have:=h.each q hq
 rwa [nd_in _ _ hq]at this
theorem SmallK.disk {k:KernL}(h:SmallK k):Small k.l:=⟨Nat.le_trans h.nodes (by decide),fun n hn=>⟨Nat.le_trans (h.node n hn).1 (by decide),Nat.le_trans (h.node n hn).2 (by decide)⟩⟩
theorem SmallK.tab {k:KernL}(h:SmallK k):SizeT k.t:=⟨Nat.le_trans h.ds (by decide),h.fs,h.rows⟩
theorem SmallK.siz {k:KernL}(h:SmallK k):KrnS 100 k:=⟨h.most,h.room,fun n hn=>(h.node n hn).2,h.ds⟩
theorem node_text {l:List NodeL}{b off cap:Nat}{X:Nat→Prop}{W:World}(h:DiskX l (.slice (some ⟨b,off,none⟩) l.length cap) X W){i:Nat}(hi:i<l.length) : ∃aon capn,W.cell? ⟨b,off+i*8+6,none⟩=some (.string (bs (l[i]).data))∧W.cell? ⟨b,off+i*8+7,none⟩=some (.slice aon (l[i]).names.length capn):=by
 obtain⟨ms,rfl,hr,_⟩:=h;(have hi2:i<ms.length:=by rwa [pl_len]at hi);rw[pl_len]at hr;obtain⟨b',o',n,aon,capn,e,_,e2,_,_, -, -, -, -, -, -,h6,h7⟩:=node_at hr i hi2;injection e with e;injection e with e1 e3 _;subst e1;subst e3;rw[e2];exact⟨aon,capn,h6,h7⟩
set_option maxRecDepth 100000 in
set_option maxHeartbeats 4000000 in
theorem small_c {X:Nat→Prop}(k:KernL)(ao ad af ap:Option Addr)(co cd cf cp:Nat)(w:World)(hD:DiskX k.l (.slice ao k.l.length co) X w)(hT:TabX k.t (.slice ad k.t.ds.length cd) (.slice af k.t.fs.length cf) X w)(hP:PsX k.ps (.slice ap k.ps.length cp) X w) :
 Calls Tryz.prog 14 #[.agg #[.slice ao k.l.length co, .int .i64 k.most, .int .i64 k.room, .slice ad k.t.ds.length cd, .slice af k.t.fs.length cf, .slice ap k.ps.length cp]] w fun e w'=>SmallIs k e w w':=by
 have S0:=Lib.hid (Sf.start (w:=w) (X:=fun _=>False) (G:= [DiskX k.l (.slice ao k.l.length co),TabX k.t (.slice ad k.t.ds.length cd) (.slice af k.t.fs.length cf),PsX k.ps (.slice ap k.ps.length cp)]) (fun _ h=>h.elim) (th3 (DiskX.firm _ _) ((DiskX.firm _ _).sub hD fun _ h=>h.elim) (TabX.firm _ _ _) ((TabX.firm _ _ _).sub hT fun _ h=>h.elim) (PsX.firm _ _) ((PsX.firm _ _).sub hP fun _ h=>h.elim)));clear hD hT hP;go_enter Tryz.func14,Tryz.ntmps14;go_upto_region 1 with(fail);refine code_fresh1 ?_;intro W1 hb hA0 hs;have S1:=Lib.hid (S0.out.new1 hb hA0);clear hb hA0 hs;go_wp2_with fail;go_loop [3] (fun i=>∃m:Nat,i = .int .i64 m∧m≤k.l.length∧m≤110∧Hid (∀q:Nat,q<m→(nd k.l q).data.length≤1200∧(nd k.l q).names.length≤100)) (fun i=>110-(RowKit.intOf i).toNat)
 case atStart=>exact⟨0,rfl,Nat.zero_le _,Nat.zero_le _,Lib.hid (fun q hq=>by omega)⟩
 case round =>
  obtain⟨m,rfl,hm,hm1,HEA⟩:=hrel;by_cases hlt:m<k.l.length
  · have iL1:decide (m<k.l.length)=true:=decide_eq_true (by omega)
    have iL2:decide ((m:Int)<(k.l.length:Int))=true:=decide_eq_true (by omega);by_cases h10:m<110
    · have iM1:decide (m<110)=true:=decide_eq_true (by omega)
      have iM2:decide ((m:Int)<(110:Int))=true:=decide_eq_true (by omega);(have m0:(0:Int)≤(m:Int):=by omega);(have m1:(m:Int)<(k.l.length:Int):=by omega);have wm:IntKind.i64.wrap ((m:Int)+1)=(m:Int)+1:=Go.IntWalk.i64_in _ (by omega);obtain⟨b7,off7,aon0,cpn0,e7, -⟩:=DiskX.range (S1.out.g 0 rfl) m hlt;subst e7;obtain⟨aon,cpn,n6,n7⟩:=node_text (S1.out.g 0 rfl) hlt;obtain⟨y,hy⟩ : ∃y,y=k.l[m]:=⟨_,rfl⟩;rw[←hy]at n6 n7;have HY:Hid (nd k.l m=y):=Lib.hid (by rw[hy];exact nd_in _ _ hlt);clear hy;obtain⟨k0, -, -, -, -, -⟩:=cells6 (S1.out.at 0 rfl);by_cases u0:y.data.length≤1200
      · have q1:decide (y.data.length>1200)=false:=decide_eq_false (by omega)
        have q2:decide ((y.data.length:Int)>1200)=false:=decide_eq_false (by omega);have q3:decide (1200<y.data.length)=false:=decide_eq_false (by omega);have q4:decide ((1200:Int)<(y.data.length:Int))=false:=decide_eq_false (by omega);by_cases u1:y.names.length≤100
        · have p1:decide (y.names.length>100)=false:=decide_eq_false (by omega)
          have p2:decide ((y.names.length:Int)>100)=false:=decide_eq_false (by omega);have p3:decide (100<y.names.length)=false:=decide_eq_false (by omega);have p4:decide ((100:Int)<(y.names.length:Int))=false:=decide_eq_false (by omega);have HEn:Hid (∀q:Nat,q<m+1→(nd k.l q).data.length≤1200∧(nd k.l q).names.length≤100):=Lib.hid (fun q hq=>by rcases Nat.lt_or_ge q m with h | h;exact HEA.out q h;obtain rfl:q=m:=(by omega);rw[HY.out];exact⟨u0,u1⟩);clear u0 u1;go_wp2_with fail;go_round
          case rel=>exact⟨m+1,by go_num,hlt,h10,HEn⟩
          case measure=>simp[RowKit.intOf];omega
        · have p1:decide (y.names.length>100)=true:=decide_eq_true (by omega)
          have p2:decide ((y.names.length:Int)>100)=true:=decide_eq_true (by omega);have p3:decide (100<y.names.length)=true:=decide_eq_true (by omega);have p4:decide ((100:Int)<(y.names.length:Int))=true:=decide_eq_true (by omega);clear u0 u1;go_wp2_with fail;go_ret;exact⟨false,rfl,fun h=>(by cases h),S1.out.bel⟩
      · have q1:decide (y.data.length>1200)=true:=decide_eq_true (by omega)
        have q2:decide ((y.data.length:Int)>1200)=true:=decide_eq_true (by omega);have q3:decide (1200<y.data.length)=true:=decide_eq_true (by omega);have q4:decide ((1200:Int)<(y.data.length:Int))=true:=decide_eq_true (by omega);clear u0;go_wp2_with fail;go_ret;exact⟨false,rfl,fun h=>(by cases h),S1.out.bel⟩
    · have iM1:decide (m<110)=false:=decide_eq_false (by omega)
      have iM2:decide ((m:Int)<(110:Int))=false:=decide_eq_false (by omega);obtain⟨k0, -, -, -,k4, -⟩:=cells6 (S1.out.at 0 rfl);go_wp2_with fail;clear k0 k4;go_loop [4] (fun i=>∃m:Nat,i = .int .i64 m∧m≤k.t.fs.length∧m≤20∧Hid (∀q:Nat,(hq:q<k.t.fs.length)→q<m→(k.t.fs[q]).length≤20)) (fun i=>20-(RowKit.intOf i).toNat)
      case atStart=>exact⟨0,rfl,Nat.zero_le _,Nat.zero_le _,Lib.hid (fun q _ hq=>by omega)⟩
      case round =>
       obtain⟨p,rfl,hp,hp1,HRA⟩:=hrel;by_cases hpt:p<k.t.fs.length
       · have jL1:decide (p<k.t.fs.length)=true:=decide_eq_true (by omega)
         have jL2:decide ((p:Int)<(k.t.fs.length:Int))=true:=decide_eq_true (by omega);by_cases h20:p<20
         · have jM1:decide (p<20)=true:=decide_eq_true (by omega)
           have jM2:decide ((p:Int)<(20:Int))=true:=decide_eq_true (by omega);(have p0:(0:Int)≤(p:Int):=by omega);(have p1:(p:Int)<(k.t.fs.length:Int):=by omega);have wp:IntKind.i64.wrap ((p:Int)+1)=(p:Int)+1:=Go.IntWalk.i64_in _ (by omega);obtain⟨b8,off8,ar,cr,eaf, -,cR, -⟩:=TabX.row (S1.out.g 1 rfl) p hpt;subst eaf;obtain⟨r,hr⟩ : ∃r,r=k.t.fs[p]:=⟨_,rfl⟩;rw[←hr]at cR;have HRR:=Lib.hid hr;clear hr;obtain⟨-, -, -, -,k4, -⟩:=cells6 (S1.out.at 0 rfl);by_cases u0:r.length≤20
           · have q1:decide (r.length>20)=false:=decide_eq_false (by omega)
             have q2:decide ((r.length:Int)>20)=false:=decide_eq_false (by omega);have q3:decide (20<r.length)=false:=decide_eq_false (by omega);have q4:decide ((20:Int)<(r.length:Int))=false:=decide_eq_false (by omega);have HRn:Hid (∀q:Nat,(hq:q<k.t.fs.length)→q<p+1→(k.t.fs[q]).length≤20):=Lib.hid (fun q hq hq2=>by rcases Nat.lt_or_ge q p with h | h;exact HRA.out q hq h;obtain rfl:q=p:=(by omega);rw[←HRR.out];exact u0);clear u0;go_wp2_with fail;go_round
             case rel=>exact⟨p+1,by go_num,hpt,h20,HRn⟩
             case measure=>simp[RowKit.intOf];omega
           · have q1:decide (r.length>20)=true:=decide_eq_true (by omega)
             have q2:decide ((r.length:Int)>20)=true:=decide_eq_true (by omega);have q3:decide (20<r.length)=true:=decide_eq_true (by omega);have q4:decide ((20:Int)<(r.length:Int))=true:=decide_eq_true (by omega);clear u0;go_wp2_with fail;go_ret;exact⟨false,rfl,fun h=>(by cases h),S1.out.bel⟩
         · have jM1:decide (p<20)=false:=decide_eq_false (by omega)
           have jM2:decide ((p:Int)<(20:Int))=false:=decide_eq_false (by omega);obtain⟨k0,k1,k2,k3,k4,k5⟩:=cells6 (S1.out.at 0 rfl);go_upto_region 11 with(fail);by_cases c0:k.most≤100
           · have t01:decide (k.most≤100)=true:=decide_eq_true (by omega)
             by_cases c1:k.room≤1000
             · have t11:decide (k.room≤1000)=true:=decide_eq_true (by omega)
               by_cases c2:k.l.length≤100
               · exfalso
                 omega
               · have t21:decide (k.l.length≤100)=false:=decide_eq_false (by omega)
                 have t22:decide ((k.l.length:Int)≤100)=false:=decide_eq_false (by omega);go_wp2_with fail;go_ret;exact⟨false,rfl,fun h=>(by cases h),S1.out.bel⟩
             · have t11:decide (k.room≤1000)=false:=decide_eq_false (by omega)
               go_wp2_with fail;go_ret;exact⟨false,rfl,fun h=>(by cases h),S1.out.bel⟩
           · have t01:decide (k.most≤100)=false:=decide_eq_false (by omega)
             go_wp2_with fail;go_ret;exact⟨false,rfl,fun h=>(by cases h),S1.out.bel⟩
       · have jL1:decide (p<k.t.fs.length)=false:=decide_eq_false (by omega)
         have jL2:decide ((p:Int)<(k.t.fs.length:Int))=false:=decide_eq_false (by omega);obtain⟨k0,k1,k2,k3,k4,k5⟩:=cells6 (S1.out.at 0 rfl);go_upto_region 11 with(fail);by_cases c0:k.most≤100
         · have t01:decide (k.most≤100)=true:=decide_eq_true (by omega)
           by_cases c1:k.room≤1000
           · have t11:decide (k.room≤1000)=true:=decide_eq_true (by omega)
             by_cases c2:k.l.length≤100
             · exfalso
               omega
             · have t21:decide (k.l.length≤100)=false:=decide_eq_false (by omega)
               have t22:decide ((k.l.length:Int)≤100)=false:=decide_eq_false (by omega);go_wp2_with fail;go_ret;exact⟨false,rfl,fun h=>(by cases h),S1.out.bel⟩
           · have t11:decide (k.room≤1000)=false:=decide_eq_false (by omega)
             go_wp2_with fail;go_ret;exact⟨false,rfl,fun h=>(by cases h),S1.out.bel⟩
         · have t01:decide (k.most≤100)=false:=decide_eq_false (by omega)
           go_wp2_with fail;go_ret;exact⟨false,rfl,fun h=>(by cases h),S1.out.bel⟩
  · have iL1:decide (m<k.l.length)=false:=decide_eq_false (by omega)
    have iL2:decide ((m:Int)<(k.l.length:Int))=false:=decide_eq_false (by omega);obtain⟨k0, -, -, -,k4, -⟩:=cells6 (S1.out.at 0 rfl);go_wp2_with fail;clear k0 k4;go_loop [4] (fun i=>∃m:Nat,i = .int .i64 m∧m≤k.t.fs.length∧m≤20∧Hid (∀q:Nat,(hq:q<k.t.fs.length)→q<m→(k.t.fs[q]).length≤20)) (fun i=>20-(RowKit.intOf i).toNat)
    case atStart=>exact⟨0,rfl,Nat.zero_le _,Nat.zero_le _,Lib.hid (fun q _ hq=>by omega)⟩
    case round =>
     obtain⟨p,rfl,hp,hp1,HRA⟩:=hrel;by_cases hpt:p<k.t.fs.length
     · have jL1:decide (p<k.t.fs.length)=true:=decide_eq_true (by omega)
       have jL2:decide ((p:Int)<(k.t.fs.length:Int))=true:=decide_eq_true (by omega);by_cases h20:p<20
       · have jM1:decide (p<20)=true:=decide_eq_true (by omega)
         have jM2:decide ((p:Int)<(20:Int))=true:=decide_eq_true (by omega);(have p0:(0:Int)≤(p:Int):=by omega);(have p1:(p:Int)<(k.t.fs.length:Int):=by omega);have wp:IntKind.i64.wrap ((p:Int)+1)=(p:Int)+1:=Go.IntWalk.i64_in _ (by omega);obtain⟨b8,off8,ar,cr,eaf, -,cR, -⟩:=TabX.row (S1.out.g 1 rfl) p hpt;subst eaf;obtain⟨r,hr⟩ : ∃r,r=k.t.fs[p]:=⟨_,rfl⟩;rw[←hr]at cR;have HRR:=Lib.hid hr;clear hr;obtain⟨-, -, -, -,k4, -⟩:=cells6 (S1.out.at 0 rfl);by_cases u0:r.length≤20
         · have q1:decide (r.length>20)=false:=decide_eq_false (by omega)
           have q2:decide ((r.length:Int)>20)=false:=decide_eq_false (by omega);have q3:decide (20<r.length)=false:=decide_eq_false (by omega);have q4:decide ((20:Int)<(r.length:Int))=false:=decide_eq_false (by omega);have HRn:Hid (∀q:Nat,(hq:q<k.t.fs.length)→q<p+1→(k.t.fs[q]).length≤20):=Lib.hid (fun q hq hq2=>by rcases Nat.lt_or_ge q p with h | h;exact HRA.out q hq h;obtain rfl:q=p:=(by omega);rw[←HRR.out];exact u0);clear u0;go_wp2_with fail;go_round
           case rel=>exact⟨p+1,by go_num,hpt,h20,HRn⟩
           case measure=>simp[RowKit.intOf];omega
         · have q1:decide (r.length>20)=true:=decide_eq_true (by omega)
           have q2:decide ((r.length:Int)>20)=true:=decide_eq_true (by omega);have q3:decide (20<r.length)=true:=decide_eq_true (by omega);have q4:decide ((20:Int)<(r.length:Int))=true:=decide_eq_true (by omega);clear u0;go_wp2_with fail;go_ret;exact⟨false,rfl,fun h=>(by cases h),S1.out.bel⟩
       · have jM1:decide (p<20)=false:=decide_eq_false (by omega)
         have jM2:decide ((p:Int)<(20:Int))=false:=decide_eq_false (by omega);obtain⟨k0,k1,k2,k3,k4,k5⟩:=cells6 (S1.out.at 0 rfl);go_upto_region 11 with(fail);by_cases c0:k.most≤100
         · have t01:decide (k.most≤100)=true:=decide_eq_true (by omega)
           by_cases c1:k.room≤1000
           · have t11:decide (k.room≤1000)=true:=decide_eq_true (by omega)
             by_cases c2:k.l.length≤100
             · have t21:decide (k.l.length≤100)=true:=decide_eq_true (by omega)
               have t22:decide ((k.l.length:Int)≤100)=true:=decide_eq_true (by omega);by_cases c3:k.t.ds.length≤100
               · have t31:decide (k.t.ds.length≤100)=true:=decide_eq_true (by omega)
                 have t32:decide ((k.t.ds.length:Int)≤100)=true:=decide_eq_true (by omega);by_cases c4:k.t.fs.length≤20
                 · exfalso
                   omega
                 · have t41:decide (k.t.fs.length≤20)=false:=decide_eq_false (by omega)
                   have t42:decide ((k.t.fs.length:Int)≤20)=false:=decide_eq_false (by omega);go_wp2_with fail;go_ret;exact⟨false,rfl,fun h=>(by cases h),S1.out.bel⟩
               · have t31:decide (k.t.ds.length≤100)=false:=decide_eq_false (by omega)
                 have t32:decide ((k.t.ds.length:Int)≤100)=false:=decide_eq_false (by omega);go_wp2_with fail;go_ret;exact⟨false,rfl,fun h=>(by cases h),S1.out.bel⟩
             · have t21:decide (k.l.length≤100)=false:=decide_eq_false (by omega)
               have t22:decide ((k.l.length:Int)≤100)=false:=decide_eq_false (by omega);go_wp2_with fail;go_ret;exact⟨false,rfl,fun h=>(by cases h),S1.out.bel⟩
           · have t11:decide (k.room≤1000)=false:=decide_eq_false (by omega)
             go_wp2_with fail;go_ret;exact⟨false,rfl,fun h=>(by cases h),S1.out.bel⟩
         · have t01:decide (k.most≤100)=false:=decide_eq_false (by omega)
           go_wp2_with fail;go_ret;exact⟨false,rfl,fun h=>(by cases h),S1.out.bel⟩
     · have jL1:decide (p<k.t.fs.length)=false:=decide_eq_false (by omega)
       have jL2:decide ((p:Int)<(k.t.fs.length:Int))=false:=decide_eq_false (by omega);obtain⟨k0,k1,k2,k3,k4,k5⟩:=cells6 (S1.out.at 0 rfl);go_upto_region 11 with(fail);by_cases c0:k.most≤100
       · have t01:decide (k.most≤100)=true:=decide_eq_true (by omega)
         by_cases c1:k.room≤1000
         · have t11:decide (k.room≤1000)=true:=decide_eq_true (by omega)
           by_cases c2:k.l.length≤100
           · have t21:decide (k.l.length≤100)=true:=decide_eq_true (by omega)
             have t22:decide ((k.l.length:Int)≤100)=true:=decide_eq_true (by omega);by_cases c3:k.t.ds.length≤100
             · have t31:decide (k.t.ds.length≤100)=true:=decide_eq_true (by omega)
               have t32:decide ((k.t.ds.length:Int)≤100)=true:=decide_eq_true (by omega);by_cases c4:k.t.fs.length≤20
               · have t41:decide (k.t.fs.length≤20)=true:=decide_eq_true (by omega)
                 have t42:decide ((k.t.fs.length:Int)≤20)=true:=decide_eq_true (by omega);by_cases c5:k.ps.length≤20
                 · have t51:decide (k.ps.length≤20)=true:=decide_eq_true (by omega)
                   have t52:decide ((k.ps.length:Int)≤20)=true:=decide_eq_true (by omega);go_wp2_with fail;go_ret;exact⟨true,rfl,fun _=>⟨c0,c1,c2,fun q hq=>HEA.out q (by omega),c3,c4,fun r hr=>(by obtain⟨q,hq,rfl⟩:=List.mem_iff_getElem.1 hr;exact HRA.out q hq (by omega)),c5⟩,S1.out.bel⟩
                 · have t51:decide (k.ps.length≤20)=false:=decide_eq_false (by omega)
                   have t52:decide ((k.ps.length:Int)≤20)=false:=decide_eq_false (by omega);go_wp2_with fail;go_ret;exact⟨false,rfl,fun h=>(by cases h),S1.out.bel⟩
               · exfalso
                 omega
             · have t31:decide (k.t.ds.length≤100)=false:=decide_eq_false (by omega)
               have t32:decide ((k.t.ds.length:Int)≤100)=false:=decide_eq_false (by omega);go_wp2_with fail;go_ret;exact⟨false,rfl,fun h=>(by cases h),S1.out.bel⟩
           · have t21:decide (k.l.length≤100)=false:=decide_eq_false (by omega)
             have t22:decide ((k.l.length:Int)≤100)=false:=decide_eq_false (by omega);go_wp2_with fail;go_ret;exact⟨false,rfl,fun h=>(by cases h),S1.out.bel⟩
         · have t11:decide (k.room≤1000)=false:=decide_eq_false (by omega)
           go_wp2_with fail;go_ret;exact⟨false,rfl,fun h=>(by cases h),S1.out.bel⟩
       · have t01:decide (k.most≤100)=false:=decide_eq_false (by omega)
         go_wp2_with fail;go_ret;exact⟨false,rfl,fun h=>(by cases h),S1.out.bel⟩
end Go.Proofs.YtgbmmcnadmfikaaGreatDoor
namespace Go.Proofs.YtgbmmcnadmfikaaGreatDoor
open Go.RowKit Go.Shelf
attribute [local go_sem ↓] Go.wp_at_zero Go.wp_at_succ
theorem bel_al2 {w W0 W1:World}{o:Obj}(h:Below w.heap.size w W0)(hs:W0.heap.size=w.heap.size+1)(g:Below W0.heap.size W0 W1):Below w.heap.size w (W1.alloc o) :=
 (h.trans (g.mono (by omega))).alloc (by have:=g.size;omega) o
theorem rootR_step (l:List NodeL)(f:Nat)(j:Int)(h:j≠0):rootR l (f+1) j=if gotB l j && decide ((atI l j).kind=2)then rootR l f (atI l j).up else false:=by
 conv=>lhs;unfold rootR
 rw[if_neg h]
set_option maxRecDepth 100000 in
set_option maxHeartbeats 2000000 in
theorem rooted_any (v:Value)(ms:List NodeM)(most room i:Int)(w:World)(hv:RdM w.heap.size v ms w)(hl:ms.length≤10000) :
 Calls Tryz.prog 104 #[.agg #[v, .int .i64 most, .int .i64 room], .int .i64 i] w fun e w'=>e = .returned (.bool (rootR (pl ms) (ms.length+1) i))∧Below w.heap.size w w':=by
 obtain⟨ao,cap,rfl,_,_⟩:=rdm_form hv;have HV:=Lib.hid hv;clear hv;go_enter Tryz.func104,Tryz.ntmps104;go_wp2_with fail;refine fresh1 (P:=fun W=>Code.wp _ _ _ _ W) ?_;intro W0 hb0 hP hs0;go_loopw [1,5] (fun j' k' wr=>∃(k:Nat) (j:Int),j' = .int .i64 j∧k' = .int .i64 k∧k≤ms.length+1∧Hid (rootR (pl ms) (ms.length+1) i=rootR (pl ms) (ms.length+1-k) j)∧Below W0.heap.size W0 wr) (fun _ k' _=>ms.length+1-(intOf k').toNat)
 case atStart=>exact⟨0,i,rfl,rfl,Nat.zero_le _,Lib.hid rfl,Below.refl _ _⟩
 case round =>
  obtain⟨k,j,rfl,rfl,hk,hR,hBr⟩:=hrel;have hPr:=(hBr.block _ (by omega)).trans hP;obtain⟨p0,p1,p2⟩:=cells3 hPr;have hBw:Below w.heap.size w wr:=hb0.trans (hBr.mono (by omega));have sB:=hBr.size;by_cases hlt:k≤ms.length
  · have hI:decide ((k:Int)≤(ms.length:Int))=true:=by simpa using hlt
    obtain⟨f,hf,hf2⟩ : ∃f,ms.length+1-k=f+1∧f=ms.length+1-(k+1):=⟨ms.length-k,by omega,by omega⟩;have hR':=hR.out;rw[hf]at hR';by_cases hj:j=0
    · have hJ:(j == 0)=true:=by simpa using hj
      have HF:Hid (rootR (pl ms) (ms.length+1) i=true):=Lib.hid (by rw[hR',hj];rfl);clear hR' hj hf hf2;go_wp2_with fail;go_ret;exact⟨ret_bool HF.out.symm,hBw⟩
    · have hJ:(j == 0)=false:=by simpa using hj
      rw[rootR_step _ _ _ hj]at hR';have HR':=Lib.hid hR';clear hR' hj hf;go_wp2_with fail;refine(rget_any (.slice ao ms.length cap) ms most room j wr (rdm_keep HV.out hBw) hl).mono ?_;intro e W1 hget;obtain⟨v1,rfl,hrn,hb1⟩:=hget;obtain⟨aon,capn,ev,_,_⟩:=Rd.form hrn;have ev':v1 = .slice aon (getL (pl ms) j).names.length capn:=ev;subst ev';have hB1:=ret_tr hBr hb1;clear hrn ev p0 p1 p2
      cases hg:gotB (pl ms) j with
      | false =>
         have HF:Hid (rootR (pl ms) (ms.length+1) i=false):=Lib.hid (by rw[HR'.out,hg];rfl);generalize getL (pl ms) j=n at *;clear hg;go_wp2_with fail;go_ret;exact⟨ret_bool HF.out.symm,bel_al2 hb0 hs0 hB1⟩
      | true =>
         (have hgl:getL (pl ms) j=atI (pl ms) j:=by unfold getL;rw[hg];rfl);rw[hgl];rw[hg]at HR';generalize atI (pl ms) j=n at *;by_cases h2:n.kind=2
         · have hK:(n.kind != 2)=false:=by simpa using h2
           (have hd:decide (n.kind=2)=true:=by simpa using h2);rw[hd]at HR';have HX:Hid (rootR (pl ms) (ms.length+1) i=rootR (pl ms) (ms.length+1-(k+1)) n.up):=Lib.hid (by rw[HR'.out,←hf2];rfl);clear h2 hd hg hgl HR';go_wp2_with fail;go_roundw
           case rel=>exact⟨k+1,n.up,rfl,by go_num,by omega,HX,hB1.alloc hB1.size _⟩
           case measure=>simp[intOf];omega
         · have hK:(n.kind != 2)=true:=by simpa using h2
           (have hd:decide (n.kind=2)=false:=by simpa using h2);rw[hd]at HR';have HF:Hid (rootR (pl ms) (ms.length+1) i=false):=Lib.hid (by rw[HR'.out];rfl);clear h2 hd hg hgl HR';go_wp2_with fail;go_ret;exact⟨ret_bool HF.out.symm,bel_al2 hb0 hs0 hB1⟩
  · have hke:k=ms.length+1:=by omega
    have HF:Hid (rootR (pl ms) (ms.length+1) i=false):=Lib.hid (by rw[hR.out,hke,Nat.sub_self];rfl);(have hI2:decide (k≤ms.length)=false:=by simp;omega);clear hke hlt;go_wp2_with fail;go_ret;exact⟨ret_bool HF.out.symm,hBw⟩
end Go.Proofs.YtgbmmcnadmfikaaGreatDoor
