import Derived.Test.YtpbmbpefophlfaaGreatDoorR16
import Derived.Test.YtpbmbpefophlfaaGreatDoorR21
import Derived.Test.YtpbmbpefophlfaaGreatDoorR27
import Derived.Test.YtpbmbpefophlfaaGreatDoorR36
import Derived.Test.YtpbmbpefophlfaaGreatDoorR38
import Derived.Test.YtpbmbpefophlfaaGreatDoorR11
import Derived.Deep.RegionHeld3
import Derived.Deep.DeepCutAuto
import Derived.Test.YtpbmbpefophlfaaGreatDoorR34
import Derived.Test.YtpbmbpefophlfaaGreatDoorR26
import Derived.Test.YtpbmbpefophlfaaGreatDoorR30
import Derived.Test.YtpbmbpefophlfaaGreatDoorR31
import Derived.Test.YtpbmbpefophlfaaGreatDoorR37
import Derived.Test.YtpbmbpefophlfaaGreatDoorR15
import Derived.Deep.MidRow
import Derived.StillTailTactics
import Derived.Test.YtpbmbpefophlfaaGreatDoorR17
import Derived.Test.YtpbmbpefophlfaaGreatDoorR18
import Derived.Deep.OwnRows
import Derived.Laws.CopyRow
import Derived.Laws.BytesString
import Derived.Lib.ConvBytes
import Derived.Lib.SlBuf
import Derived.Test.YtpbmbpefophlfaaGreatDoorR19
import Derived.Test.YtpbmbpefophlfaaGreatDoorR25
namespace Go.Proofs.YtpbmbpefophlfaaGreatDoor
open Go.RowKit Go.Shelf
attribute [local go_sem ↓] Go.wp_at_zero Go.wp_at_succ
theorem wpList_load_midG {P:Program}{ops:Array Oper}{rest:List Oper}{op:Oper}{a:Act}{w:World}{Q:Exit→Act→World→Prop}(hw:Region.wanted op (yielded ops a.tmps)=true)(ty:TypeId)(x:Operand)(ho:op.op = .load ty x)
 (b o:Nat) (hx:a.eval x = .pointer (some ⟨b,o,none⟩)) (cs:List Value) (d:TypeDesc) (hc:w.rangeAt b o cs)
 (hu:P.underlying ty=some d) (hd:d.isRow=true) (hi:(P.info? ty).map (·.size)=some cs.length)
 (h:wpList P ops Q rest (a.put op.dst (.agg cs.toArray)) w):wpList P ops Q (op::rest) a w :=
  wpList_step fun _ hK=>by rw[if_pos hw];exact wp_load_mid ty x ho b o hx cs d hc hu hd hi (hK _ _ h)
end Go.Proofs.YtpbmbpefophlfaaGreatDoor
namespace Go.Proofs.YtpbmbpefophlfaaGreatDoor
open Go.RowKit Go.Shelf
attribute [local go_sem ↓] Go.wp_at_zero Go.wp_at_succ
def PosK (k:KernL):Prop:=∀d∈k.t.ds, -9223372036854775808≤d.pos∧d.pos≤9223372036854775807
end Go.Proofs.YtpbmbpefophlfaaGreatDoor
namespace Go.Proofs.YtpbmbpefophlfaaGreatDoor
open Go.RowKit Go.Shelf
attribute [local go_sem ↓] Go.wp_at_zero Go.wp_at_succ
theorem dskOf {l:List NodeL}(hr:RightP l)(hs:Small l):Dsk l :=
 ⟨fun ms e=>⟨⟨by rw[←pl_len,e];exact Nat.le_trans hs.1 (by decide),fun n hn=>by rw[e]at hn;have:=(hs.2 n hn).2;omega,by rw[e];exact hr⟩,fun n hn=>by rw[e]at hn;have:=(hs.2 n hn).1;omega⟩,hs⟩
end Go.Proofs.YtpbmbpefophlfaaGreatDoor
namespace Go.Proofs.YtpbmbpefophlfaaGreatDoor
open Go.RowKit
def InI (n:Int):Prop:= -9223372036854775808≤n∧n≤9223372036854775807
theorem in0:InI 0:=⟨by decide,by decide⟩
def PosD (ds:List DescL):Prop:=∀d∈ds,InI d.pos
theorem posD_at {ds:List DescL}(h:PosD ds)(i:Nat):InI (ds.getD i zeroD).pos:=by
 rcases Nat.lt_or_ge i ds.length with h1 | h1
 · rw[List.getD_eq_getElem?_getD,List.getElem?_eq_getElem h1];exact h _ (List.getElem_mem _)
 · rw[List.getD_eq_getElem?_getD,List.getElem?_eq_none h1];exact in0
theorem posD_set {ds:List DescL}(h:PosD ds)(i:Nat){x:DescL}(hx:InI x.pos):PosD (ds.set i x):=fun d hd=>by
 rcases List.mem_or_eq_of_mem_set hd with h1 | rfl
 · exact h d h1
 · exact hx
theorem posT_desc {t:TabL}(h:PosD t.ds)(i:Int):InI (descT t i).pos:=posD_at h _
theorem posT_found {t:TabL}(h:PosD t.ds)(p fd:Int):InI (foundT t p fd).pos:=by
 unfold foundT;split
 · exact posT_desc h _
 · exact in0
theorem posT_close {t:TabL}(h:PosD t.ds)(p fd:Int):PosD (closeT t p fd).1.ds:=by
 unfold closeT;split
 · exact h
 · refine posD_set h _ ?_
   split
   · exact in0
   · exact posT_found h _ _
structure KSt (c:Nat) (k:KernL):Prop where
 rig:RigK k
 siz:KrnS c k
 pos:PosD k.t.ds
theorem KSt.mono {c c':Nat}{k:KernL}(h:KSt c k)(hc:c≤c'):KSt c' k:=⟨h.rig,h.siz.mono hc,h.pos⟩
theorem KSt.ok {c:Nat}{k:KernL}(h:KSt c k)(hc:c≤120):KrnOk k :=
 have sr:=small_right h.rig h.siz
 ⟨h.rig,h.siz.mono hc,dskOf h.rig.rightP ⟨Nat.le_trans sr.1 (by decide),fun n hn=>⟨Nat.le_trans (sr.2 n hn).1 (by decide),by have:=(sr.2 n hn).2;omega⟩⟩⟩
structure CallOk (c:CallL):Prop where
 p1:c.path.length≤10000
 p2:c.path2.length≤10000
 dt:c.data.length≤1000
 f0:InI c.fd
 g0:InI c.fd2
 kd:Kd c.kind
end Go.Proofs.YtpbmbpefophlfaaGreatDoor
namespace Go.Proofs.YtpbmbpefophlfaaGreatDoor
open Go.RowKit Go.Shelf
attribute [local go_sem ↓] Go.wp_at_zero Go.wp_at_succ
def rowM (v:Value):Thing:=RdX 1 v 8 (intC [-1, -1, -1, -1, -1, -1, -1, -1])
def RowsT (vs:List Value):Thing:=fun X W=>∀v,v∈vs→rowM v X W
theorem RowsT.firm (vs:List Value):Firm (RowsT vs):=Firm.all fun _=>RdX.firm _ _ _ _
end Go.Proofs.YtpbmbpefophlfaaGreatDoor
namespace Go.Proofs.YtpbmbpefophlfaaGreatDoor
open Go.RowKit Go.Shelf
attribute [local go_sem ↓] Go.wp_at_zero Go.wp_at_succ
theorem fitD_right {l:List NodeL}(h:RightP l):FitD l:=fun n hn e he=>Nat.le_trans (Rig.legal h n hn e he) (by decide)
def SoundIs (k:KernL)(e:Ending)(w w':World):Prop:=∃b,e = .returned (.bool b)∧(b=true→SmallK k∧RigK k)∧Below w.heap.size w w'
theorem small_disk {k:KernL}(hr:RigK k)(hs:KrnS 121 k):Small k.l:=by
 have sr:=small_right hr hs;exact⟨Nat.le_trans sr.1 (by decide),fun n hn=>⟨Nat.le_trans (sr.2 n hn).1 (by decide),Nat.le_trans (sr.2 n hn).2 (by decide)⟩⟩
theorem size_tab {k:KernL}(hr:RigK k)(hs:KrnS 121 k):SizeT k.t:=by
 have h8:=hr.eight;have hd:=hs.2.2.2;exact⟨by omega,by omega,fun r hm=>by have:=(hr.tab.1 r hm).1;omega⟩
theorem names_small {l:List NodeL}(h:Small l) : ∀n∈l,n.names.length≤10000:=fun n hn=>Nat.le_trans (h.2 n hn).2 (by decide)
set_option maxRecDepth 100000 in
set_option maxHeartbeats 4000000 in
theorem sound_c (X:Nat→Prop)(k:KernL)(ao ad af ap:Option Addr)(co cd cf cp:Nat)(w:World)(hX:Old X w)(hD:DiskX k.l (.slice ao k.l.length co) X w)(hT:TabX k.t (.slice ad k.t.ds.length cd) (.slice af k.t.fs.length cf) X w)(hP:PsX k.ps (.slice ap k.ps.length cp) X w)(hf:FitD k.l):Calls Tryz.prog 4 #[.agg #[.slice ao k.l.length co, .int .i64 k.most, .int .i64 k.room, .slice ad k.t.ds.length cd, .slice af k.t.fs.length cf, .slice ap k.ps.length cp]] w fun e w'=>SoundIs k e w w':=by
 have S0:=Lib.hid (Sf.start (G:= [DiskX k.l (.slice ao k.l.length co),TabX k.t (.slice ad k.t.ds.length cd) (.slice af k.t.fs.length cf),PsX k.ps (.slice ap k.ps.length cp)]) hX (th3 (DiskX.firm _ _) hD (TabX.firm _ _ _) hT (PsX.firm _ _) hP));have HF:=Lib.hid hf;clear hX hD hT hP hf;go_enter Tryz.func4,Tryz.ntmps4;go_upto_region 1 with(fail);refine code_fresh1 ?_;intro W1 hb hA0 hs;have S1:=Lib.hid (S0.out.new1 hb hA0);clear hb hA0 hs;have h_k:=(S1.out.at 0 rfl);go_wp2_with (first | (refine wpList_load_row rfl 31 _ rfl _ rfl 31 _ (0,0) _ h_k Tryz.underlying31 rfl (by kernel_rfl) ?_));refine(small_c k _ _ _ _ _ _ _ _ W1 (S1.out.g 0 rfl) (S1.out.g 1 rfl) (S1.out.g 2 rfl)).mono ?_;rintro e W2 ⟨b,rfl,hsm,hb⟩;clear h_k;have S2:=Lib.hid (S1.out.call hb);have HSM:=Lib.hid hsm;clear hsm hb
 cases b with
 | false =>
    go_wp2_with fail;go_ret;exact⟨false,rfl,fun h=>(by cases h),S2.out.bel⟩
 | true =>
    have HS:=Lib.hid (HSM.out rfl);have h_k:=(S2.out.at 0 rfl);go_wp2_with (first | (refine wpList_load_row rfl 31 _ rfl _ rfl 31 _ (0,0) _ h_k Tryz.underlying31 rfl (by kernel_rfl) ?_) | (refine wpList_load_rowG rfl 31 _ rfl _ rfl 31 _ (0,0) _ h_k Tryz.underlying31 rfl (by kernel_rfl) ?_));refine(kern_c _ k _ _ _ _ _ _ _ _ W2 S2.out.oldX (S2.out.g 0 rfl) (S2.out.g 1 rfl) (S2.out.g 2 rfl) (Nat.le_trans HS.out.disk.1 (by decide)) (names_small HS.out.disk) HS.out.tab (Nat.le_trans HS.out.ps (by decide))).mono ?_;rintro e W3 ⟨ao2,co2,ad2,cd2,ap2,cp2,rfl,hD,hT,hP,hb⟩;clear h_k;have S3:=Lib.hid ((((S2.out.call hb).more (DiskX.firm _ _) hD).more (TabX.firm _ _ _) hT).more (PsX.firm _ _) hP);clear hD hT hP hb;go_wp2_with fail;refine(rrightK_c k _ _ _ _ _ _ _ _ W3 (S3.out.g 3 rfl) (S3.out.g 4 rfl) (S3.out.g 5 rfl) HS.out.tab HS.out.disk HF.out (Nat.le_trans HS.out.ps (by decide))).mono ?_;rintro e W4 ⟨rfl,hb⟩;have S4:=Lib.hid (S3.out.call hb);clear hb;go_wp2_with fail;go_ret;exact⟨rightK k,rfl,fun h=>⟨HS.out,(right_K k).1 h⟩,S4.out.bel⟩
def KernIs (X:Nat→Prop)(k:KernL)(e:Ending)(w w':World):Prop:=∃ao co ad cd af cf ap cp,e = .returned (kernV (.slice ao k.l.length co) k.most k.room (.slice ad k.t.ds.length cd) (.slice af k.t.fs.length cf) (.slice ap k.ps.length cp))∧DiskX k.l (.slice ao k.l.length co) X w'∧TabX k.t (.slice ad k.t.ds.length cd) (.slice af k.t.fs.length cf) X w'∧PsX k.ps (.slice ap k.ps.length cp) X w'∧Below w.heap.size w w'
end Go.Proofs.YtpbmbpefophlfaaGreatDoor
