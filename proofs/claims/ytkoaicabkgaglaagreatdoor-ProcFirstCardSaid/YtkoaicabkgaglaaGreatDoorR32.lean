import Derived.Test.YtkoaicabkgaglaaGreatDoorR22
import Derived.Test.YtkoaicabkgaglaaGreatDoorR23
import Derived.Test.YtkoaicabkgaglaaGreatDoorR16
import Derived.Shelf.Spec.SlicesGrow
import Derived.StillTailTactics
import Derived.Test.YtkoaicabkgaglaaGreatDoorR13
import Derived.Test.YtkoaicabkgaglaaGreatDoorR11
import Derived.MapKept
import Derived.RowKit3
import Derived.Below
import Derived.Deep.RegionHeld3
import Derived.Deep.DeepCutAuto
namespace Go.Proofs.YtkoaicabkgaglaaGreatDoor
open Go.RowKit Go.Shelf
open Go.WideShapes (add_plain)
attribute [local go_sem ↓] Go.wp_at_zero Go.wp_at_succ
theorem infoProcF:(Tryz.prog.info? 39).map (fun i=>(i.zero,i.size,i.bytes))=some (some (.agg #[.int .i64 0, .int .i64 0, .int .i64 0, .bool false]),4,32):=by kernel_rfl
def growRenP:Go.Shelf.Ren:=⟨fun | 4=>53 | n=>n,fun | 0=>0 | 3=>3 | 4=>4 | 9=>9 | 20=>20 | 22=>29 | 25=>39 | n=>n,fun | n=>n⟩
theorem growLaidP:Lays8.n4 Tryz.prog growRenP:= {
 mixed:=by kernel_rfl
 f4:=⟨ "slices.Grow[[]flagstone/kernel.Proc,flagstone/kernel.Proc]",by decide,Tryz.func53.trans (congrArg some (by kernel_rfl))⟩
 t0:=Tryz.underlying0
 a0:=Tryz.isAgg0
 z0:=Tryz.sizeOf0
 v0:=Tryz.zeroValue0
 t3:=Tryz.underlying3
 a3:=Tryz.isAgg3
 z3:=Tryz.sizeOf3
 v3:=Tryz.zeroValue3
 t4:=Tryz.underlying4
 a4:=Tryz.isAgg4
 z4:=Tryz.sizeOf4
 v4:=Tryz.zeroValue4
 t9:=Tryz.underlying9
 a9:=Tryz.isAgg9
 z9:=Tryz.sizeOf9
 v9:=Tryz.zeroValue9
 t20:=Tryz.underlying20
 a20:=Tryz.isAgg20
 z20:=Tryz.sizeOf20
 v20:=Tryz.zeroValue20
 t22:=Tryz.underlying29
 a22:=Tryz.isAgg29
 z22:=Tryz.sizeOf29
 v22:=Tryz.zeroValue29}
def GrowIsP (e:Ending)(W W':World):Prop:=∃v,e = .returned v∧W'.ownsRow W.heap.size 39 4 v 0 []∧Below W.heap.size W W'
theorem growP_any (n:Nat)(hn:n≤1000000)(w:World):Calls Tryz.prog 53 #[.slice none 0 0, .int .i64 n] w fun e w'=>GrowIsP e w w':=by
 obtain⟨i0,hi0,hz0,hz1,hz2⟩:=info_parts infoProcF;rcases Nat.eq_zero_or_pos n with rfl | hp
 · refine(Any8.slices_Grow_room growLaidP none 0 0 0 w (Nat.le_refl _) (by decide) (by decide) (by decide)).mono ?_
   rintro e w' ⟨rfl,rfl⟩;exact⟨_,rfl,⟨rfl, .inl ⟨rfl,rfl⟩⟩,Below.refl _ _⟩
 · refine(Any8.slices_Grow_grow growLaidP i0 _ hi0 hz0 (by omega) none 0 0 n [] w (Nat.le_refl _) (by omega) (by rw[hz2];omega) (by omega) (by simp) (fun _=>rfl) (fun a h=>by cases h)).mono ?_
   rintro e w' ⟨rfl,rfl⟩;have h1:=grownCap_ge w (0+n) 0 39;have h2:=grownCap_le_maxLen w (0+n) 0 39 (by unfold maxLen;omega);refine⟨_,rfl,⟨rfl, .inr ⟨w.heap.size,_,_,rfl,Nat.le_refl _,heap_alloc_new w.drew _,Nat.zero_le _,h2,?_,by simp⟩⟩,((Below.refl _ w).drew).alloc (Nat.le_refl _) _⟩;show(#[]++_++_:Array Value).size=grownCap w (0+n) 0 39*4;rw[Array.size_append,Array.size_append,size_zeroCells,size_zeroCells];show 0+(0+n-0)*4+(grownCap w (0+n) 0 39-(0+n))*4=_;omega
abbrev SrcP:=Value × List ProcL
def allP (S:List SrcP):List ProcL:=(S.map (·.2)).flatten
theorem allP_succ (S:List SrcP)(k:Nat)(h:k<S.length):allP (S.take (k+1))=allP (S.take k)++S[k].2:=by
 unfold allP;rw[List.take_succ_eq_append_getElem h,List.map_append,List.flatten_append];simp
theorem allP_len (S:List SrcP)(hs : ∀x∈S,x.2.length≤10001)(h3:S.length≤3)(k:Nat):(allP (S.take k)).length≤30003:=by
 have main : ∀S:List SrcP,(∀x∈S,x.2.length≤10001)→(allP S).length≤S.length*10001:=by
  intro S
  induction S with
  | nil=>intro _;exact Nat.le_refl _
  | cons a S ih =>
     intro h;(have h1:=ih fun x hx=>h x (by simp[hx]));have h2:=h a (by simp);(have:(allP (a::S)).length=a.2.length+(allP S).length:=by simp[allP]);rw[this,List.length_cons];omega
 (have h1:=main (S.take k) fun x hx=>hs x (List.mem_of_mem_take hx));(have h2:(S.take k).length≤3:=by rw[List.length_take];omega);omega
def SrcOkP (B b off:Nat)(S:List SrcP)(w:World):Prop:=∀k (h:k<S.length),w.cell? ⟨b,off+k,none⟩=some S[k].1∧Rd B 4 S[k].1 S[k].2.length (cellsP S[k].2) w
set_option maxRecDepth 100000 in
set_option maxHeartbeats 4000000 in
theorem concatP_any (b off cap:Nat)(S:List SrcP)(w:World)(hb:b<w.heap.size)(hS:SrcOkP w.heap.size b off S w)(hs : ∀x∈S,x.2.length≤10001)(h3:S.length≤3) :
 Calls Tryz.prog 20 #[.slice (some ⟨b,off,none⟩) S.length cap] w fun e w'=>∃v,e = .returned v∧w'.ownsRow w.heap.size 39 4 v (allP S).length (cellsP (allP S))∧Below w.heap.size w w':=by
 obtain⟨i0,hi0,hz0,hz1,hz2⟩:=info_parts infoProcF;have HS:=Lib.hid hS;have HL:=Lib.hid (allP_len S hs h3);clear hS hs;go_enter Tryz.func20,Tryz.ntmps20;go_wp2_with fail;go_loop [3,11] (fun z i=>∃k:Nat,i = .int .i64 k∧k≤S.length∧z = .int .i64 (allP (S.take k)).length) (fun _ i=>S.length-(intOf i).toNat)
 case atStart=>exact⟨0,rfl,Nat.zero_le _,rfl⟩
 case round =>
  obtain⟨k,rfl,hk,rfl⟩:=hrel;have hkl:=HL.out k;by_cases hlt:k<S.length
  · obtain⟨hc0,hr⟩:=HS.out k hlt
    have hl1:Hid ((allP (S.take (k+1))).length=(allP (S.take k)).length+S[k].2.length):=Lib.hid (by rw[allP_succ S k hlt,List.length_append]);have hkl1:=HL.out (k+1);rw[hl1.out]at hkl1;obtain⟨ao,cap',e,_,_⟩:=Rd.form hr;rw[e]at hc0;clear e hr;generalize (allP (S.take k)).length=z at *;generalize S[k].2.length=y at *;go_wp2_with fail;go_round
    case rel=>exact⟨k+1,by go_num,hlt,by rw[hl1.out];go_num⟩
    case measure=>simp[intOf];omega
  · have hke:k=S.length:=by omega
    have HT:Hid (S.take k=S):=Lib.hid (by rw[hke,List.take_length]);(have hI2:decide (k<S.length)=false:=by simp;omega);rw[HT.out]at hkl ⊢;clear hke hlt;go_wp2_with fail;refine(growP_any (allP S).length (by omega) _).mono ?_;rintro e w1 ⟨v,rfl,hown,hb1⟩;have HO:=Lib.hid hown;have HB:=Lib.hid hb1;clear hown hb1;go_wp2_with fail;go_loopw [6,27] (fun o i wr=>∃k:Nat,i = .int .i64 k∧k≤S.length∧wr.ownsRow w.heap.size 39 4 o (allP (S.take k)).length (cellsP (allP (S.take k)))∧Below w.heap.size w wr) (fun _ i _=>S.length-(intOf i).toNat)
    case atStart=>exact⟨0,rfl,Nat.zero_le _,HO.out,HB.out⟩
    case round =>
     obtain⟨k,rfl,hk,hown,hBr⟩:=hrel;have sB:=hBr.size;by_cases hlt:k<S.length
     · obtain⟨hc0,hr⟩:=HS.out k hlt
       have hc1:=(hBr.cell (p:=⟨b,off+k,none⟩) hb).trans hc0;have hl1:Hid ((allP (S.take (k+1))).length=(allP (S.take k)).length+S[k].2.length):=Lib.hid (by rw[allP_succ S k hlt,List.length_append]);have he1:Hid (cellsP (allP (S.take (k+1)))=cellsP (allP (S.take k))++cellsP S[k].2):=Lib.hid (by rw[allP_succ S k hlt,cellsP_app]);have hkl1:=HL.out (k+1);rw[hl1.out]at hkl1;have hr1:=Lib.hid (Rd.below hr hBr);have HO1:=Lib.hid (cellsP_one S[k].2);obtain⟨ao,cap',e,_,_⟩:=Rd.form hr;rw[e]at hc1 hr1;clear e hr hc0;generalize (allP (S.take k)).length=z at *;generalize S[k].2=y at *;go_wp2_with (at_builtin;go_loud (refine wpList_append_rd rfl (.tmp 31) (.tmp 32) 29 rfl w.heap.size 39 i0 _ 4 32 Tryz.underlying29 hi0 hz0 hz1 hz2 rfl (by decide) _ z _ rfl hown w.heap.size _ y.length (cellsP y) rfl hr1.out HO1.out (by unfold maxLen;omega) (by omega) sB ?_));intro v3 w3 ho3 hgr3;have hB3:Below w.heap.size w w3:=hBr.grown hgr3 sB (fun j ej=>(hown.lt j ej).1);rw[←he1.out,←hl1.out]at ho3;go_wp2_with fail;go_roundw
       case rel=>exact⟨k+1,by go_num,hlt,ho3,hB3⟩
       case measure=>simp[intOf];omega
     · have hke:k=S.length:=by omega
       have HT2:Hid (S.take k=S):=Lib.hid (by rw[hke,List.take_length]);(have hI2:decide (k<S.length)=false:=by simp;omega);rw[HT2.out]at hown;clear hke hlt;go_wp2_with fail;go_ret;exact⟨_,rfl,hown,hBr⟩
end Go.Proofs.YtkoaicabkgaglaaGreatDoor
namespace Go.Proofs.YtkoaicabkgaglaaGreatDoor
open Go.RowKit Go.Shelf
attribute [local go_sem ↓] Go.wp_at_zero Go.wp_at_succ
set_option maxRecDepth 100000 in
set_option maxHeartbeats 4000000 in
theorem palive_c {X:Nat→Prop}(k:KernL)(p:Int)(ao ad af ap:Option Addr)(co cd cf cp:Nat)(w:World)(hP:PsX k.ps (.slice ap k.ps.length cp) X w) :
 Calls Tryz.prog 44 #[.agg #[.slice ao k.l.length co, .int .i64 k.most, .int .i64 k.room, .slice ad k.t.ds.length cd, .slice af k.t.fs.length cf, .slice ap k.ps.length cp], .int .i64 p] w fun e w'=>e = .returned (.bool (liveB k.ps p))∧Below w.heap.size w w':=by
 have S0:=Lib.hid (Sf.start (w:=w) (X:=fun _=>False) (G:= [PsX k.ps (.slice ap k.ps.length cp)]) (fun _ h=>h.elim) (th1 (PsX.firm _ _) ((PsX.firm _ _).sub hP fun _ h=>h.elim)));clear hP;go_enter Tryz.func44,Tryz.ntmps44;go_upto_region 1 with(fail);refine code_fresh1 ?_;intro W1 hb hA0 hs;have S1:=Lib.hid (S0.out.new1 hb hA0);clear hb hA0 hs;obtain⟨-, -, -, -, -,k5⟩:=cells6 (S1.out.at 0 rfl);by_cases h1:p<0
 · have i1:decide (0≤p)=false:=decide_eq_false (by omega)
   have i2:decide (p<0)=true:=decide_eq_true h1;have HL:Hid (liveB k.ps p=false):=Lib.hid (by unfold liveB;rw[i1];rfl);clear h1;go_wp2_with fail;go_ret;exact⟨by rw[HL.out];rfl,S1.out.bel⟩
 · have i1:decide (0≤p)=true:=decide_eq_true (by omega)
   have i2:decide (p<0)=false:=decide_eq_false h1;by_cases h2:p<k.ps.length
   rotate_left
   · have i3:decide (p<(k.ps.length:Int))=false:=decide_eq_false h2
     have HL:Hid (liveB k.ps p=false):=Lib.hid (by unfold liveB;rw[i3,Bool.false_and,Bool.and_false]);clear h1 h2;go_wp2_with fail;go_ret;exact⟨by rw[HL.out];rfl,S1.out.bel⟩
   · have i3:decide (p<(k.ps.length:Int))=true:=decide_eq_true h2
     obtain⟨a,rfl⟩:=Int.eq_ofNat_of_zero_le (show 0≤p by omega);(have ha:a<k.ps.length:=by omega);obtain⟨b,off,eap, -, -, -,pc3⟩:=PsX.proc (S1.out.g 0 rfl) a ha;subst eap;obtain⟨l,hl⟩ : ∃l,l=k.ps[a].live:=⟨_,rfl⟩;rw[←hl]at pc3;have HL:Hid (liveB k.ps (a:Int)=l):=Lib.hid ((live_at ha).1.trans hl.symm);(have a0:(0:Int)≤(a:Int):=by omega);have a1:(a:Int)<(k.ps.length:Int):=h2;clear hl h1 h2;clear k5;obtain⟨-, -, -, -, -,k5⟩:=cells6 (S1.out.at 0 rfl);go_wp2_with fail;go_ret;exact⟨by rw[HL.out];rfl,S1.out.bel⟩
end Go.Proofs.YtkoaicabkgaglaaGreatDoor
