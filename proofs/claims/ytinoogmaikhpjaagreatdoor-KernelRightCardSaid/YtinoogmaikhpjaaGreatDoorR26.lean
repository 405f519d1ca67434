import Derived.Test.YtinoogmaikhpjaaGreatDoorR25
import Derived.Deep.RegionHeld3
import Derived.Test.YtinoogmaikhpjaaGreatDoorR18
import Derived.Test.YtinoogmaikhpjaaGreatDoorR23
import Derived.Test.YtinoogmaikhpjaaGreatDoorR13
import Derived.Test.YtinoogmaikhpjaaGreatDoorR17
import Derived.Deep.AppendLies
import Derived.BigRegion
import Derived.Test.YtinoogmaikhpjaaGreatDoorR12
import Derived.Test.YtinoogmaikhpjaaGreatDoorR15
import Derived.Deep.DeepCutAuto
import Derived.Test.YtinoogmaikhpjaaGreatDoorProg
import Derived.Test.YtinoogmaikhpjaaGreatDoorShelf
import Derived.Lib.ItoaLen
import Derived.Lib.AppendIntMem
import Derived.Deep.MidRow
import Derived.StillTailTactics
import Derived.Deep.OwnRows
import Derived.Laws.CopyRow
import Derived.Laws.BytesString
import Derived.Lib.ConvBytes
import Derived.Lib.SlBuf
import Derived.Test.YtinoogmaikhpjaaGreatDoorR22
namespace Go.Proofs.YtinoogmaikhpjaaGreatDoor
open Go.RowKit Go.Shelf
attribute [local go_sem ↓] Go.wp_at_zero Go.wp_at_succ
section
variable {ps:List ProcL} {X:Nat→Prop} {W:World} {b off cp:Nat}
theorem PsX.c0 (h:PsX ps (.slice (some ⟨b,off,none⟩) ps.length cp) X W)(a:Nat)(ha:a<ps.length):W.cell? ⟨b,off+a*4,none⟩=some (.int .i64 (ps[a]).who):=by
 obtain⟨b',o',e,c0,_⟩:=h.proc a ha;injection e with e;injection e with e1 e2 _;subst e1;subst e2;exact c0
theorem PsX.c1 (h:PsX ps (.slice (some ⟨b,off,none⟩) ps.length cp) X W)(a:Nat)(ha:a<ps.length):W.cell? ⟨b,off+a*4+1,none⟩=some (.int .i64 (ps[a]).umask):=by
 obtain⟨b',o',e,_,c1,_⟩:=h.proc a ha;injection e with e;injection e with e1 e2 _;subst e1;subst e2;exact c1
theorem PsX.c2 (h:PsX ps (.slice (some ⟨b,off,none⟩) ps.length cp) X W)(a:Nat)(ha:a<ps.length):W.cell? ⟨b,off+a*4+2,none⟩=some (.int .i64 (ps[a]).cwd):=by
 obtain⟨b',o',e,_,_,c2,_⟩:=h.proc a ha;injection e with e;injection e with e1 e2 _;subst e1;subst e2;exact c2
end
end Go.Proofs.YtinoogmaikhpjaaGreatDoor
namespace Go.Proofs.YtinoogmaikhpjaaGreatDoor
open Go.RowKit Go.Shelf
attribute [local go_sem ↓] Go.wp_at_zero Go.wp_at_succ
section
variable {ps:List ProcL} {X:Nat→Prop} {W:World} {b off cp:Nat}
theorem PsX.rng (h:PsX ps (.slice (some ⟨b,off,none⟩) ps.length cp) X W)(a:Nat)(ha:a<ps.length):W.rangeAt b (off+a*4) (prcells ps[a]):=by
 obtain⟨b',o',e,hr⟩:=h.range a ha;injection e with e;injection e with e1 e2 _;subst e1;subst e2;exact hr
end
end Go.Proofs.YtinoogmaikhpjaaGreatDoor
namespace Go.Proofs.YtinoogmaikhpjaaGreatDoor
open Go.RowKit Go.Shelf
attribute [local go_sem ↓] Go.wp_at_zero Go.wp_at_succ
def inD (t:TabL)(i:Int):Bool:=decide (0≤i) && decide (i<t.ds.length)
set_option maxRecDepth 100000 in
set_option maxHeartbeats 4000000 in
theorem phas_c {X:Nat→Prop}(t:TabL)(ad af:Option Addr)(cap capf:Nat)(w:World)(hT:TabX t (.slice ad t.ds.length cap) (.slice af t.fs.length capf) X w)(p:Int) :
 Calls Tryz.prog 57 #[tabV ad t.ds.length cap af t.fs.length capf, .int .i64 p] w fun e w'=>e = .returned (.bool (inT t p))∧Below w.heap.size w w':=by
 have S0:=Lib.hid (Sf.start (w:=w) (X:=fun _=>False) (G:= [TabX t (.slice ad t.ds.length cap) (.slice af t.fs.length capf)]) (fun _ h=>h.elim) (th1 (TabX.firm _ _ _) ((TabX.firm _ _ _).sub hT fun _ h=>h.elim)));clear hT;go_enter Tryz.func57,Tryz.ntmps57;go_upto_region 1 with(fail);refine code_fresh1 ?_;intro W1 hb hA0 hs;have S1:=Lib.hid (S0.out.new1 hb hA0);clear hb hA0 hs;obtain⟨d0,d1⟩:=cells2 (S1.out.at 0 rfl);by_cases h1:p<0
 · have i1:decide (0≤p)=false:=decide_eq_false (by omega)
   have HB:Hid ((inT t p)=false):=Lib.hid (by unfold inT;rw[i1];rfl);go_wp2_with fail;go_ret;exact⟨by rw[HB.out];rfl,S1.out.bel⟩
 · have i1:decide (0≤p)=true:=decide_eq_true (by omega)
   obtain⟨a,rfl⟩:=Int.eq_ofNat_of_zero_le (show 0≤p by omega);(have a0:(0:Int)≤(a:Int):=by omega);clear h1;by_cases h2:a<t.fs.length
   · have iL1:decide (a<t.fs.length)=true:=decide_eq_true (by omega)
     have iM1:decide ((a:Int)<(t.fs.length:Int))=true:=decide_eq_true (by omega);have HB:Hid ((inT t (a:Int))=true):=Lib.hid (by unfold inT;rw[iM1,i1];rfl);clear i1 h2;go_wp2_with fail;go_ret;exact⟨by rw[HB.out];rfl,S1.out.bel⟩
   · have iL1:decide (a<t.fs.length)=false:=decide_eq_false (by omega)
     have iM1:decide ((a:Int)<(t.fs.length:Int))=false:=decide_eq_false (by omega);have HB:Hid ((inT t (a:Int))=false):=Lib.hid (by unfold inT;rw[iM1,i1];rfl);clear i1 h2;go_wp2_with fail;go_ret;exact⟨by rw[HB.out];rfl,S1.out.bel⟩
set_option maxRecDepth 100000 in
set_option maxHeartbeats 4000000 in
theorem phasD_c {X:Nat→Prop}(t:TabL)(ad af:Option Addr)(cap capf:Nat)(w:World)(hT:TabX t (.slice ad t.ds.length cap) (.slice af t.fs.length capf) X w)(p:Int) :
 Calls Tryz.prog 42 #[tabV ad t.ds.length cap af t.fs.length capf, .int .i64 p] w fun e w'=>e = .returned (.bool (inD t p))∧Below w.heap.size w w':=by
 have S0:=Lib.hid (Sf.start (w:=w) (X:=fun _=>False) (G:= [TabX t (.slice ad t.ds.length cap) (.slice af t.fs.length capf)]) (fun _ h=>h.elim) (th1 (TabX.firm _ _ _) ((TabX.firm _ _ _).sub hT fun _ h=>h.elim)));clear hT;go_enter Tryz.func42,Tryz.ntmps42;go_upto_region 1 with(fail);refine code_fresh1 ?_;intro W1 hb hA0 hs;have S1:=Lib.hid (S0.out.new1 hb hA0);clear hb hA0 hs;obtain⟨d0,d1⟩:=cells2 (S1.out.at 0 rfl);by_cases h1:p<0
 · have i1:decide (0≤p)=false:=decide_eq_false (by omega)
   have HB:Hid ((inD t p)=false):=Lib.hid (by unfold inD;rw[i1];rfl);go_wp2_with fail;go_ret;exact⟨by rw[HB.out];rfl,S1.out.bel⟩
 · have i1:decide (0≤p)=true:=decide_eq_true (by omega)
   obtain⟨a,rfl⟩:=Int.eq_ofNat_of_zero_le (show 0≤p by omega);(have a0:(0:Int)≤(a:Int):=by omega);clear h1;by_cases h2:a<t.ds.length
   · have iL1:decide (a<t.ds.length)=true:=decide_eq_true (by omega)
     have iM1:decide ((a:Int)<(t.ds.length:Int))=true:=decide_eq_true (by omega);have HB:Hid ((inD t (a:Int))=true):=Lib.hid (by unfold inD;rw[iM1,i1];rfl);clear i1 h2;go_wp2_with fail;go_ret;exact⟨by rw[HB.out];rfl,S1.out.bel⟩
   · have iL1:decide (a<t.ds.length)=false:=decide_eq_false (by omega)
     have iM1:decide ((a:Int)<(t.ds.length:Int))=false:=decide_eq_false (by omega);have HB:Hid ((inD t (a:Int))=false):=Lib.hid (by unfold inD;rw[iM1,i1];rfl);clear i1 h2;go_wp2_with fail;go_ret;exact⟨by rw[HB.out];rfl,S1.out.bel⟩
end Go.Proofs.YtinoogmaikhpjaaGreatDoor
namespace Go.Proofs.YtinoogmaikhpjaaGreatDoor
open Go.RowKit Go.Shelf
attribute [local go_sem ↓] Go.wp_at_zero Go.wp_at_succ
set_option maxRecDepth 100000 in
set_option maxHeartbeats 4000000 in
theorem pcount_c {X:Nat→Prop}(t:TabL)(ad af:Option Addr)(cap capf:Nat)(w:World)(hT:TabX t (.slice ad t.ds.length cap) (.slice af t.fs.length capf) X w)(p:Int)(hz:SizeT t)(hr:RightT t) :
 Calls Tryz.prog 44 #[tabV ad t.ds.length cap af t.fs.length capf, .int .i64 p] w fun e w'=>e = .returned (.int .i64 (countT t p))∧Below w.heap.size w w':=by
 have S0:=Lib.hid (Sf.start (w:=w) (X:=fun _=>False) (G:= [TabX t (.slice ad t.ds.length cap) (.slice af t.fs.length capf)]) (fun _ h=>h.elim) (th1 (TabX.firm _ _ _) ((TabX.firm _ _ _).sub hT fun _ h=>h.elim)));have HZ:=Lib.hid hz;have HRR:=Lib.hid hr;clear hT hz hr;go_enter Tryz.func44,Tryz.ntmps44;go_upto_region 1 with(fail);refine code_fresh1 ?_;intro W1 hb hA0 hs;have S1:=Lib.hid (S0.out.new1 hb hA0);clear hb hA0 hs;have h_d:=(S1.out.at 0 rfl);go_wp2_with (first | (refine wpList_load_row rfl 28 _ rfl _ rfl 28 _ (0,0) _ h_d Tryz.underlying28 rfl (by kernel_rfl) ?_));refine(phas_c t _ _ _ _ _ (S1.out.g 0 rfl) p).mono ?_;rintro e W2 ⟨rfl,hb⟩;clear h_d;have S2:=Lib.hid (S1.out.call hb);clear hb
 cases hin:inT t p with
 | false =>
    have HC:Hid (countT t p=0):=Lib.hid (by unfold countT;rw[hin];rfl);clear hin;go_wp2_with fail;go_ret;exact⟨by rw[HC.out];rfl,S2.out.bel⟩
 | true =>
    obtain⟨a,rfl,ha⟩:=in_T hin;have HC:Hid (countT t (a:Int)=countR (rowT t (a:Int))):=Lib.hid (by unfold countT;rw[hin];rfl);clear hin;(have a0:(0:Int)≤(a:Int):=by omega);(have a1:(a:Int)<(t.fs.length:Int):=by omega);obtain⟨b,off,ar,cr,eaf,_,cR,hR⟩:=TabX.row (S2.out.g 0 rfl) a ha;subst eaf;(have hrr : ∀x∈t.fs[a], -1≤x:=fun x hx=>((HRR.out.1 _ (List.getElem_mem ha)).2 x hx).1);have hr8:(t.fs[a]).length≤20:=HZ.out.2.2 _ (List.getElem_mem ha);rw[row_at ha]at HC;obtain⟨r,hrow⟩ : ∃r,r=t.fs[a]:=⟨_,rfl⟩;rw[←hrow]at cR hR HC hrr hr8;clear hrow;obtain⟨d0,d1⟩:=cells2 (S2.out.at 0 rfl);go_wp2_with fail;go_loop [5,18] (fun n i=>∃k:Nat,n = .int .i64 (countR (r.take k))∧i = .int .i64 k∧k≤r.length) (fun _ i=>r.length-(RowKit.intOf i).toNat)
    case atStart=>exact⟨0,rfl,rfl,Nat.zero_le _⟩
    case round =>
     obtain⟨k,rfl,rfl,hk⟩:=hrel;by_cases hlt:k<r.length
     · have iL1:decide (k<r.length)=true:=decide_eq_true (by omega)
       have iM1:decide ((k:Int)<(r.length:Int))=true:=decide_eq_true (by omega);(have k0:(0:Int)≤(k:Int):=by omega);(have k1:(k:Int)<(r.length:Int):=by omega);have wk:IntKind.i64.wrap ((k:Int)+1)=(k:Int)+1:=Go.IntWalk.i64_in _ (by omega);obtain⟨b2,off2,ear,cI⟩:=RdX.int hR k hlt;subst ear;have HS:=Lib.hid (count_step r k hlt);(have hcl:countR (r.take k)≤20:=by have:=count_le (r.take k);rw[List.length_take]at this;omega);have hvr:=hrr _ (List.getElem_mem hlt);obtain⟨c,hc⟩ : ∃c,c=countR (r.take k):=⟨_,rfl⟩;rw[←hc]at HS hcl ⊢;clear hc;obtain⟨v,hv⟩ : ∃v,v=r[k]:=⟨_,rfl⟩;rw[←hv]at cI HS hvr;clear hv;have wc:IntKind.i64.wrap ((c:Int)+1)=(c:Int)+1:=Go.IntWalk.i64_in _ (by omega);by_cases h5:v = -1
       · subst h5
         have HS2:Hid (countR (r.take (k+1))=c):=Lib.hid (by rw[HS.out,if_neg (by omega),Nat.add_zero]);go_wp2_with fail;go_round
         case rel=>exact⟨k+1,by rw[HS2.out],by go_num,hlt⟩
         case measure=>simp[RowKit.intOf];omega
       · have i5:decide (v = -1)=false:=decide_eq_false h5
         (have i6:(v == -1)=false:=by rw[beq_eq_false_iff_ne];exact h5);(have i7:(v != -1)=true:=by rw[bne_iff_ne];exact h5);have HS2:Hid (countR (r.take (k+1))=c+1):=Lib.hid (by rw[HS.out,if_pos (by omega)]);clear h5;go_wp2_with fail;go_round
         case rel=>exact⟨k+1,by rw[HS2.out];go_num,by go_num,hlt⟩
         case measure=>simp[RowKit.intOf];omega
     · have iL1:decide (k<r.length)=false:=decide_eq_false (by omega)
       have iM1:decide ((k:Int)<(r.length:Int))=false:=decide_eq_false (by omega);have ht:r.take k=r:=List.take_of_length_le (by omega);rw[ht];clear ht hlt;go_wp2_with fail;go_ret;exact⟨by rw[HC.out];rfl,S2.out.bel⟩
end Go.Proofs.YtinoogmaikhpjaaGreatDoor
namespace Go.Proofs.YtinoogmaikhpjaaGreatDoor
open Go.RowKit Go.Shelf
attribute [local go_sem ↓] Go.wp_at_zero Go.wp_at_succ
structure PlaceL where
 who:Int
 path:Str
 s:SpotL
 dn:NodeL
 nn:NodeL
abbrev pcells (p:PlaceL)(vd vn:Value):Array Value :=
 #[.int .i64 p.who, .string (bs p.path), .int .i64 p.s.dir, .string (bs p.s.name), .int .i64 p.s.ino, .bool p.s.slash, .int .i64 p.dn.kind, .int .i64 p.dn.mode, .int .i64 p.dn.owner, .int .i64 p.dn.links, .int .i64 p.dn.opn, .int .i64 p.dn.up, .string (bs p.dn.data),vd,
  .int .i64 p.nn.kind, .int .i64 p.nn.mode, .int .i64 p.nn.owner, .int .i64 p.nn.links, .int .i64 p.nn.opn, .int .i64 p.nn.up, .string (bs p.nn.data),vn]
end Go.Proofs.YtinoogmaikhpjaaGreatDoor
namespace Go.Proofs.YtinoogmaikhpjaaGreatDoor
open Go.RowKit Go.Shelf
attribute [local go_sem ↓] Go.wp_at_zero Go.wp_at_succ
def TellsE (S:Nat→Addr)(n:Int)(e:Ending)(w w':World):Prop:=∃v,e = .returned v∧ErrIs S n v∧Below w.heap.size w w'
theorem TellsE.of {S:Nat→Addr}{n m:Int}{v:Value}{w w':World}(h:m=n)(hv:ErrIs S n v)(hb:Below w.heap.size w w'):TellsE S m (.returned v) w w':=⟨v,rfl,by rw[h];exact hv,hb⟩
end Go.Proofs.YtinoogmaikhpjaaGreatDoor
namespace Go.Proofs.YtinoogmaikhpjaaGreatDoor
open Go.RowKit Go.Shelf
attribute [local go_sem ↓] Go.wp_at_zero Go.wp_at_succ
structure Ord (l:List NodeL):Prop where
 len:l.length≤10000
 nm : ∀n∈l,n.names.length≤10000
 up : ∀n∈l,Up n.names
theorem Ord.node {l:List NodeL}(h:Ord l)(i:Int):(nodeL l i).names.length≤10000∧Up (nodeL l i).names:=by
 unfold nodeL;split
 · unfold atI
   rcases Nat.lt_or_ge i.toNat l.length with h1 | h1
   · rw[List.getD_eq_getElem?_getD,List.getElem?_eq_getElem h1];exact⟨h.nm _ (List.getElem_mem _),h.up _ (List.getElem_mem _)⟩
   · rw[List.getD_eq_getElem?_getD,List.getElem?_eq_none h1];exact⟨Nat.zero_le _,List.Pairwise.nil⟩
 · exact⟨Nat.zero_le _,List.Pairwise.nil⟩
theorem Ord.set {l:List NodeL}(h:Ord l){n:NodeL}(h1:n.names.length≤10000)(h2:Up n.names)(i:Int):Ord (setL l i n):=by
 unfold setL;split
 · refine⟨by rw[List.length_set];exact h.len,fun m hm=> ?_,fun m hm=> ?_⟩
   · rcases List.mem_or_eq_of_mem_set hm with hm | rfl
     · exact h.nm m hm
     · exact h1
   · rcases List.mem_or_eq_of_mem_set hm with hm | rfl
     · exact h.up m hm
     · exact h2
 · exact h
theorem Dsk.ord {l:List NodeL}(h:Dsk l):Ord l:=by
 refine⟨h.len,fun n hn=>Nat.le_trans (h.sm.2 n hn).2 (by decide),fun n hn=> ?_⟩;obtain⟨k,hk,rfl⟩:=List.mem_iff_getElem.1 hn;rw[←nd_lt hk];exact(Rig.sorted (Rig.of h.rig).1 k).2
end Go.Proofs.YtinoogmaikhpjaaGreatDoor
namespace Go.Proofs.YtinoogmaikhpjaaGreatDoor
open Go.RowKit Go.Shelf
theorem made_at (z:Array Value)(n j:Nat)(hj:j<n):(madeCells z n).toList[j]? = some z[j % z.size]!:= by
 rw[Array.getElem?_toList];simp[madeCells,hj]
theorem made_one (z:Value)(n:Nat):(madeCells #[z] n).toList=List.replicate n z:=by
 apply List.ext_getElem?;intro j;rcases Nat.lt_or_ge j n with hj | hj
 · rw[made_at _ _ _ hj,List.getElem?_replicate,if_pos hj,show(#[z]:Array Value).size=1 from rfl,Nat.mod_one]
   rfl
 · rw[List.getElem?_eq_none (by rw[Array.length_toList,size_madeCells];exact hj),List.getElem?_eq_none (by rw[List.length_replicate];exact hj)]
theorem own_ints {W:World}{base:Nat}{e:TypeId}{v:Value}{n:Nat}(h:W.ownsRow base e 1 v n (madeCells #[.int .i64 0] (n*1)).toList):W.ownsRow base e 1 v (List.replicate n (0:Int)).length (intC (List.replicate n 0)):=by
 rw[made_one,Nat.mul_one]at h;rw[List.length_replicate];unfold intC;rw[List.map_replicate];exact h
section
variable {tD tS tI:TypeId} {base:Nat} {t:TabL} {vd vf:Value} {rows:List RowV} {X:Nat→Prop} {W W':World}
def noRow:RowV:=([], .slice none 0 0)
theorem OwnT.start {ds:List DescL}{n:Nat}(h:OwnT tD tS tI base ⟨ds,[]⟩ vd (.slice none 0 0) [] W)(ho:W.ownsRow base tS 1 vf n (madeCells #[.slice none 0 0] (n*1)).toList):OwnT tD tS tI base ⟨ds,List.replicate n []⟩ vd vf (List.replicate n noRow) W:=by
 refine⟨by rw[List.map_replicate];rfl,h.ds,?_,fun m hm=> ?_,fun i j a b ha _ _ g hg=> ?_⟩
 · rw[made_one,Nat.mul_one]at ho
   rw[List.length_replicate,List.map_replicate];exact ho
 · obtain rfl:=List.eq_of_mem_replicate hm
   exact World.ownsRow_nil _ _ _ _
 · obtain rfl:=List.eq_of_mem_replicate (List.mem_of_getElem? ha)
   cases hg
end
end Go.Proofs.YtinoogmaikhpjaaGreatDoor
namespace Go.Proofs.YtinoogmaikhpjaaGreatDoor
section
variable {P:Program} {md:Region.Mode} {ops:Array Oper} {Q:Exit→Act→World→Prop} {T F:World→Prop} {s:Nat}
def UntilD (T F:World→Prop)(s:Nat)(listed:Array Bool)(w:World):Prop:=T w∧(listed.getD s true=false→F w)
def anyD (P:Program)(md:Region.Mode)(ops:Array Oper)(Q:Exit→Act→World→Prop)(T F:World→Prop)(s:Nat):Nat→Array Bool→Act→World→Prop
 | 0,listed,a,w=>Region.ready md ops listed = []∧Q .normal a w
 | n+1,listed,a,w=>(Region.ready md ops listed = []→Q .normal a w) ∧
    ∀i,i∈Region.ready md ops listed→wpOp P ops Q i (fun a' w'=>UntilD T F s (listed.setIfInBounds i true) w'∧anyD P md ops Q T F s n (listed.setIfInBounds i true) a' w') a w
theorem anyD.any : ∀ {n:Nat} {listed:Array Bool} {a:Act} {w:World},anyD P md ops Q T F s n listed a w→wpAny P md ops Q n listed a w
 | 0,_,_,_,h=>h
 | _+1,_,_,_,h=>⟨h.1,fun i hi=>wpOp_mono (fun _ _ h'=>h'.2.any) (h.2 i hi)⟩
theorem anyD.core {i:Nat}{oi:Oper}{v:Value}(U:World→Prop)(R:Array Bool→Prop)(hi:ops[i]? = some oi)(hsel : ∀(j:Nat) (o:Oper) cs b,ops[j]? = some o→o.op≠ .select cs b)
 (hQ : ∀c a w,Q (.panic c) (a.put oi.dst v) w→Q (.panic c) a w) (his:i≠s) (hU : ∀listed w,R listed→UntilD T F s listed w→U w)
 (hR : ∀(listed:Array Bool) (j:Nat),R listed→i∈Region.ready md ops listed→j∈Region.ready md ops listed→j≠i→R (listed.setIfInBounds j true)) :
 ∀(n:Nat) (listed:Array Bool) (a:Act) (w:World),
  (∀j oj,ops[j]? = some oj→j≠i→listed.getD j true=false→(∀e∈oj.after,Region.binds md e=true→e.on≠i)→oi.apart ops oj=true) →
  i∈Region.ready md ops listed→YieldsIf P ops U oi v a→R listed→UntilD T F s listed w →
  anyD P md ops Q T F s n (listed.setIfInBounds i true) (a.put oi.dst v) w→anyD P md ops Q T F s (n+1) listed a w:=by
 (have hiw : ∀(listed:Array Bool) (w:World),UntilD T F s listed w→UntilD T F s (listed.setIfInBounds i true) w:=fun listed w h=>⟨h.1,fun e=>h.2 (by rw[getD_set_ne true his]at e;exact e)⟩);intro n
 induction n with
 | zero =>
    intro listed a w _ hr hy hl hS H;refine⟨fun h=>(by rw[h]at hr;cases hr),fun j hj=> ?_⟩;by_cases e:j=i
    · subst e;exact hy.wpOp hi (hU _ _ hl hS) ⟨hiw _ _ hS,H⟩
    · have h1:=ready_mono hj e
      rw[H.1]at h1
      cases h1
 | succ n ih =>
    intro listed a w hfree hr hy hl hS H;refine⟨fun h=>(by rw[h]at hr;cases hr),fun j hj=> ?_⟩;by_cases e:j=i
    · subst e;exact hy.wpOp hi (hU _ _ hl hS) ⟨hiw _ _ hS,H⟩
    · have h1:=H.2 j (ready_mono hj e)
      have hl':=hR listed j hl hr hj e;have hr':=ready_mono hr (Ne.symm e);obtain⟨hju,oj,hoj,hall⟩:=mem_ready.1 hj
      have hno : ∀d∈oj.after,Region.binds md d=true→d.on≠i:=by
       intro d hd hb heq;have g1:=hall d hd hb;have g0:=(mem_ready.1 hr).1;rw[heq]at g1;rcases Nat.lt_or_ge i listed.size with g | g
       · rw[Array.getD_eq_getD_getElem?,Array.getElem?_eq_getElem g]at g0 g1
         rw[show listed[i]=false from g0]at g1
         cases g1
       · rw[Array.getD_eq_getD_getElem?,Array.getElem?_eq_none g]at g1
         cases g1
      have h2:=wpOp_putIf hoj (hfree j oj hoj e hju hno) (fun cs b=>hsel i oi cs b hi) (fun cs b=>hsel j oj cs b hoj) hQ hy h1;refine wpOp_mono (fun a' w' h3=> ?_) h2;have h4:UntilD T F s (listed.setIfInBounds j true) w':=⟨h3.2.1.1,fun ee=>h3.2.1.2 (by rw[Array.setIfInBounds_comm _ _ (Ne.symm e),getD_set_ne true his];exact ee)⟩;refine⟨h4,ih (listed.setIfInBounds j true) a' w' (fun k ok hk hki hun hn=>hfree k ok hk hki ?_ hn) hr' h3.1 hl' h4 ?_⟩
      · by_cases ejk:j=k
        · subst ejk;exact hju
        · rw[getD_set_ne true ejk]at hun;exact hun
      · rw[Array.setIfInBounds_comm _ _ e]
        exact h3.2.2
section
variable {i:Nat} {oi:Oper} {v:Value} {n:Nat} {listed:Array Bool} {a:Act} {w:World}
theorem anyD.take (hi:ops[i]? = some oi)(hs:Region.noSelect ops=true)(hf:Region.free md ops listed i=true)(hr:(Region.ready md ops listed).contains i=true)
 (hQ : ∀c a w,Q (.panic c) (a.put oi.dst v) w→Q (.panic c) a w) (his:(i == s)=false) (hy:YieldsIf P ops T oi v a) (hS:UntilD T F s listed w)
 (h:anyD P md ops Q T F s n (listed.setIfInBounds i true) (a.put oi.dst v) w):anyD P md ops Q T F s (n+1) listed a w :=
  anyD.core T (fun _=>True) hi (Region.noSelect_spec hs) hQ (by simpa using his) (fun _ _ _ h=>h.1) (fun _ _ _ _ _ _=>trivial) n listed a w (Region.free_spec hi hf) (by simpa using hr) hy trivial hS h
end
end
end Go.Proofs.YtinoogmaikhpjaaGreatDoor
namespace Go.Proofs.YtinoogmaikhpjaaGreatDoor
open Go.RowKit Go.Shelf
attribute [local go_sem ↓] Go.wp_at_zero Go.wp_at_succ
def PlcIs (X:Nat→Prop)(S:Nat→Addr)(p:PlaceL)(n:Int)(e:Ending)(w w':World):Prop :=
 ∃v aod capd aon capn,e = .returned (.tuple #[.agg (pcells p (.slice aod p.dn.names.length capd) (.slice aon p.nn.names.length capn)),v])∧ErrIs S n v∧NodeX X p.dn (.slice aod p.dn.names.length capd) w'∧NodeX X p.nn (.slice aon p.nn.names.length capn) w'∧Below w.heap.size w w'
theorem PlcIs.of {X:Nat→Prop}{S:Nat→Addr}{p q:PlaceL}{n m:Int}{v:Value}{aod aon:Option Addr}{capd capn:Nat}{w w':World}(hp:q=p)(hn:m=n)(hv:ErrIs S n v)(h1:NodeX X p.dn (.slice aod p.dn.names.length capd) w')(h2:NodeX X p.nn (.slice aon p.nn.names.length capn) w')(hb:Below w.heap.size w w') :
 PlcIs X S q m (.returned (.tuple #[.agg (pcells p (.slice aod p.dn.names.length capd) (.slice aon p.nn.names.length capn)),v])) w w':=by
 subst hp;subst hn;exact⟨v,aod,capd,aon,capn,rfl,hv,h1,h2,hb⟩
end Go.Proofs.YtinoogmaikhpjaaGreatDoor
namespace Go.Proofs.YtinoogmaikhpjaaGreatDoor
open Go.RowKit Go.Shelf
attribute [local go_sem ↓] Go.wp_at_zero Go.wp_at_succ
theorem rangeAt8 {W:World}{b o:Nat}{v0 v1 v2 v3 v4 v5 v6 v7:Value}(h0:W.cell? ⟨b,o,none⟩=some v0)(h1:W.cell? ⟨b,o+1,none⟩=some v1)(h2:W.cell? ⟨b,o+2,none⟩=some v2)(h3:W.cell? ⟨b,o+3,none⟩=some v3)(h4:W.cell? ⟨b,o+4,none⟩=some v4)(h5:W.cell? ⟨b,o+5,none⟩=some v5)(h6:W.cell? ⟨b,o+6,none⟩=some v6)(h7:W.cell? ⟨b,o+7,none⟩=some v7):W.rangeAt b o [v0,v1,v2,v3,v4,v5,v6,v7]:=by
 intro j v hv;rcases j with _ | _ | _ | _ | _ | _ | _ | _ | j
 · obtain rfl:=Option.some.inj hv;exact h0
 · obtain rfl:=Option.some.inj hv;exact h1
 · obtain rfl:=Option.some.inj hv;exact h2
 · obtain rfl:=Option.some.inj hv;exact h3
 · obtain rfl:=Option.some.inj hv;exact h4
 · obtain rfl:=Option.some.inj hv;exact h5
 · obtain rfl:=Option.some.inj hv;exact h6
 · obtain rfl:=Option.some.inj hv;exact h7
 · simp at hv
end Go.Proofs.YtinoogmaikhpjaaGreatDoor
namespace Go.Proofs.YtinoogmaikhpjaaGreatDoor
open Go.RowKit Go.Shelf
attribute [local go_sem ↓] Go.wp_at_zero Go.wp_at_succ
theorem Ord.add {l:List NodeL}(h:Dsk l){n:NodeL}(hn:SmallN n)(hu:Up n.names)(most room:Int):Ord (addL l most room n):=by
 have hs:Siz 111 130 (addL l most room n):=Siz.add (a:=110) (c:=130) ⟨h.sm.1,h.sm.2⟩ hn most room;refine⟨Nat.le_trans hs.1 (by decide),fun m hm=>Nat.le_trans (hs.2 m hm).2 (by decide),fun m hm=> ?_⟩;have ho:=h.ord.up;unfold addL at hm;split at hm
 · exact ho m hm
 · split at hm
   · rcases List.mem_append.1 hm with hm | hm
     · exact ho m hm
     · rw[List.mem_singleton]at hm;subst hm;exact hu
   · rcases List.mem_or_eq_of_mem_set hm with hm | rfl
     · exact ho m hm
     · exact hu
end Go.Proofs.YtinoogmaikhpjaaGreatDoor
namespace Go.Proofs.YtinoogmaikhpjaaGreatDoor
open Go.RowKit Go.Shelf
attribute [local go_sem ↓] Go.wp_at_zero Go.wp_at_succ
theorem KrnOk.nms {k:KernL}(h:KrnOk k) : ∀n∈k.l,n.names.length≤10000:=fun n hm=>Nat.le_trans (h.dsk.sm.2 n hm).2 (by decide)
end Go.Proofs.YtinoogmaikhpjaaGreatDoor
namespace Go.Proofs.YtinoogmaikhpjaaGreatDoor
open Go.RowKit Go.Shelf
attribute [local go_sem ↓] Go.wp_at_zero Go.wp_at_succ
def WorkIs (X:Nat→Prop)(bw a:Nat)(c:CallL)(R:DoL)(e:Ending)(w w':World):Prop :=
 ∃r ar cr ev cs,e = .returned (.tuple #[replyV r (.slice ar r.ls.length cr),ev])∧ErrK R.2.e ev∧BelB bw w w'∧LsX r.ls (.slice ar r.ls.length cr) X w'∧w'.heap[bw]? = some (.cells cs 81 (0,0))
  ∧ (R.2.e=0→r=R.2∧∃ao co ad cd af cf ap cp,cs = #[.slice ao R.1.l.length co, .int .i64 R.1.most, .int .i64 R.1.room, .slice ad R.1.t.ds.length cd, .slice af R.1.t.fs.length cf, .slice ap R.1.ps.length cp, .int .i64 (a:Int), .int .i64 c.kind, .int .i64 c.fd, .int .i64 c.fd2, .int .i64 c.n, .int .i64 c.mode, .int .i64 c.flags, .string (bs c.path), .string (bs c.path2), .string (bs c.data)]
   ∧ DiskX R.1.l (.slice ao R.1.l.length co) X w'∧TabX R.1.t (.slice ad R.1.t.ds.length cd) (.slice af R.1.t.fs.length cf) X w'∧PsX R.1.ps (.slice ap R.1.ps.length cp) X w')
theorem WorkIs.no {X:Nat→Prop}{bw a:Nat}{c:CallL}{k:KernL}{n:Int}{r:ReplyL}{ar:Option Addr}{cr:Nat}{ev:Value}{cs:Array Value}{w w':World}(hv:ErrK n ev)(hn:n≠0)(hb:BelB bw w w')(hl:LsX r.ls (.slice ar r.ls.length cr) X w')(hw:w'.heap[bw]? = some (.cells cs 81 (0,0))) :
 WorkIs X bw a c (k,errR n) (.returned (.tuple #[replyV r (.slice ar r.ls.length cr),ev])) w w':=⟨r,ar,cr,ev,cs,rfl,hv,hb,hl,hw,fun h=>absurd h hn⟩
end Go.Proofs.YtinoogmaikhpjaaGreatDoor
namespace Go.Proofs.YtinoogmaikhpjaaGreatDoor
open Go.RowKit Go.Shelf
attribute [local go_sem ↓] Go.wp_at_zero Go.wp_at_succ
theorem wpList_load_midG {P:Program}{ops:Array Oper}{rest:List Oper}{op:Oper}{a:Act}{w:World}{Q:Exit→Act→World→Prop}(hw:Region.wanted op (yielded ops a.tmps)=true)(ty:TypeId)(x:Operand)(ho:op.op = .load ty x)
 (b o:Nat) (hx:a.eval x = .pointer (some ⟨b,o,none⟩)) (cs:List Value) (d:TypeDesc) (hc:w.rangeAt b o cs)
 (hu:P.underlying ty=some d) (hd:d.isRow=true) (hi:(P.info? ty).map (·.size)=some cs.length)
 (h:wpList P ops Q rest (a.put op.dst (.agg cs.toArray)) w):wpList P ops Q (op::rest) a w :=
  wpList_step fun _ hK=>by rw[if_pos hw];exact wp_load_mid ty x ho b o hx cs d hc hu hd hi (hK _ _ h)
end Go.Proofs.YtinoogmaikhpjaaGreatDoor
namespace Go.Proofs.YtinoogmaikhpjaaGreatDoor
open Go.RowKit Go.Shelf
attribute [local go_sem ↓] Go.wp_at_zero Go.wp_at_succ
theorem dskOf {l:List NodeL}(hr:RightP l)(hs:Small l):Dsk l :=
 ⟨fun ms e=>⟨⟨by rw[←pl_len,e];exact Nat.le_trans hs.1 (by decide),fun n hn=>by rw[e]at hn;have:=(hs.2 n hn).2;omega,by rw[e];exact hr⟩,fun n hn=>by rw[e]at hn;have:=(hs.2 n hn).1;omega⟩,hs⟩
end Go.Proofs.YtinoogmaikhpjaaGreatDoor
namespace Go.Proofs.YtinoogmaikhpjaaGreatDoor
open Go.RowKit
def InI (n:Int):Prop:= -9223372036854775808≤n∧n≤9223372036854775807
def PosD (ds:List DescL):Prop:=∀d∈ds,InI d.pos
structure KSt (c:Nat) (k:KernL):Prop where
 rig:RigK k
 siz:KrnS c k
 pos:PosD k.t.ds
theorem KSt.mono {c c':Nat}{k:KernL}(h:KSt c k)(hc:c≤c'):KSt c' k:=⟨h.rig,h.siz.mono hc,h.pos⟩
theorem KSt.ok {c:Nat}{k:KernL}(h:KSt c k)(hc:c≤120):KrnOk k :=
 have sr:=small_right h.rig h.siz
 ⟨h.rig,h.siz.mono hc,dskOf h.rig.rightP ⟨Nat.le_trans sr.1 (by decide),fun n hn=>⟨Nat.le_trans (sr.2 n hn).1 (by decide),by have:=(sr.2 n hn).2;omega⟩⟩⟩
end Go.Proofs.YtinoogmaikhpjaaGreatDoor
namespace Go.Proofs.YtinoogmaikhpjaaGreatDoor
open Go.RowKit Go.Shelf
attribute [local go_sem ↓] Go.wp_at_zero Go.wp_at_succ
theorem infoProcR:(Tryz.prog.info? 66).map (fun i=>(i.zero,i.size,i.bytes))=some (some (.agg #[.int .i64 0, .int .i64 0, .int .i64 0, .bool false]),4,32):=by kernel_rfl
theorem Sf.rdx {X:Nat→Prop}{w W:World}{B:List Bl}{G:List Thing}(h:Sf X w B G W){e:TypeId}{s n:Nat}{v:Value}{xs:List Value}(ho:W.ownsRow w.heap.size e s v n xs)(hne:(B.map (·.2.2)).contains e=false):RdX s v n xs (Xo X (B.map (·.1))) W :=
 ⟨Rd.own ho (Nat.le_refl _),fun g hg=>by
  rcases hg with hg | hg
  · exact own_far ho (h.old g hg)
  · obtain⟨x,hx,rfl⟩:=List.mem_map.1 hg
    intro a n' c ev _ hb
    exact h.apart ho hne a.block (by rw[ev];rfl) x hx hb.symm⟩
end Go.Proofs.YtinoogmaikhpjaaGreatDoor
