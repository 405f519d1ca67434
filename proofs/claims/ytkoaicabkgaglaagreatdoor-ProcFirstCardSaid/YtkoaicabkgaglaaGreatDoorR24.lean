import Derived.Test.YtkoaicabkgaglaaGreatDoorR23
import Derived.Test.YtkoaicabkgaglaaGreatDoorR18
import Derived.Deep.AppendLies
import Derived.Deep.RegionHeld3
import Derived.BigRegion
import Derived.Test.YtkoaicabkgaglaaGreatDoorR13
import Derived.Test.YtkoaicabkgaglaaGreatDoorR17
import Derived.Deep.DeepCutAuto
import Derived.Test.YtkoaicabkgaglaaGreatDoorR11
import Derived.Test.YtkoaicabkgaglaaGreatDoorProg
import Derived.LaidEql
import Derived.Stop.Asserts
import Derived.RowKitTokens
import Derived.Test.YtkoaicabkgaglaaGreatDoorR14
import Derived.Test.YtkoaicabkgaglaaGreatDoorR12
import Derived.Test.YtkoaicabkgaglaaGreatDoorR21
namespace Go.Proofs.YtkoaicabkgaglaaGreatDoor
open Go.RowKit Go.Shelf
attribute [local go_sem ↓] Go.wp_at_zero Go.wp_at_succ
theorem opd_next (ds:List DescL)(ino:Int){k:Nat}(hk:k<ds.length):opensD (ds.take (k+1)) ino=opensD (ds.take k) ino+if(decide (0<(ds[k]).refs) && decide ((ds[k]).ino=ino))then 1 else 0:=by
 unfold opensD;rw[List.take_succ_eq_append_getElem hk,List.countP_append,List.countP_singleton]
theorem opp_next (ps:List ProcL)(ino:Int){k:Nat}(hk:k<ps.length):opensP (ps.take (k+1)) ino=opensP (ps.take k) ino+if((ps[k]).live && decide ((ps[k]).cwd=ino))then 1 else 0:=by
 unfold opensP;rw[List.take_succ_eq_append_getElem hk,List.countP_append,List.countP_singleton]
theorem opd_le (ds:List DescL)(ino:Int):opensD ds ino≤ds.length:=List.countP_le_length
theorem opp_le (ps:List ProcL)(ino:Int):opensP ps ino≤ps.length:=List.countP_le_length
set_option maxRecDepth 100000 in
set_option maxHeartbeats 4000000 in
theorem ropens_c (X:Nat→Prop)(k:KernL)(ao ad af ap:Option Addr)(co cd cf cp:Nat)(w:World)(ino:Int)(hX:Old X w)(hD:DiskX k.l (.slice ao k.l.length co) X w)(hT:TabX k.t (.slice ad k.t.ds.length cd) (.slice af k.t.fs.length cf) X w)(hP:PsX k.ps (.slice ap k.ps.length cp) X w)(h1:k.t.ds.length≤1000)(h2:k.ps.length≤1000) :
 Calls Tryz.prog 58 #[.agg #[.slice ao k.l.length co, .int .i64 k.most, .int .i64 k.room, .slice ad k.t.ds.length cd, .slice af k.t.fs.length cf, .slice ap k.ps.length cp], .int .i64 ino] w fun e w'=>e = .returned (.int .i64 (opensN k ino))∧Below w.heap.size w w':=by
 have S0:=Lib.hid (Sf.start (G:= [DiskX k.l (.slice ao k.l.length co),TabX k.t (.slice ad k.t.ds.length cd) (.slice af k.t.fs.length cf),PsX k.ps (.slice ap k.ps.length cp)]) hX (th3 (DiskX.firm _ _) hD (TabX.firm _ _ _) hT (PsX.firm _ _) hP));have HA:=Lib.hid h1;have HB:=Lib.hid h2;clear hX hD hT hP h1 h2;go_enter Tryz.func58,Tryz.ntmps58;go_upto_region 1 with(fail);refine code_fresh1 ?_;intro W1 hb hA0 hs;have S1:=Lib.hid (S0.out.new1 hb hA0);clear hb hA0 hs;go_wp2_with fail;go_loop [5,6] (fun n i=>∃j:Nat,n = .int .i64 (opensD (k.t.ds.take j) ino:Nat)∧i = .int .i64 j∧j≤k.t.ds.length) (fun _ i=>k.t.ds.length-(RowKit.intOf i).toNat)
 case atStart=>exact⟨0,rfl,rfl,Nat.zero_le _⟩
 case round =>
  obtain⟨j,rfl,rfl,hj⟩:=hrel;have hl1:=HA.out;obtain⟨-, -, -,c3, -, -⟩:=cells6 (S1.out.at 0 rfl);by_cases hlt:j<k.t.ds.length
  · have iL1:decide (j<k.t.ds.length)=true:=decide_eq_true (by omega)
    have iM1:decide ((j:Int)<(k.t.ds.length:Int))=true:=decide_eq_true (by omega);(have j0:(0:Int)≤(j:Int):=by omega);(have j1:(j:Int)<(k.t.ds.length:Int):=by omega);have wj:IntKind.i64.wrap ((j:Int)+1)=(j:Int)+1:=Go.IntWalk.i64_in _ (by omega);obtain⟨b,off,ead,d0, -, -, -,d4, -⟩:=TabX.desc (S1.out.g 1 rfl) j hlt;subst ead;have H1:=Lib.hid (opd_next k.t.ds ino hlt);have hn1:=opd_le (k.t.ds.take j) ino;rw[List.length_take]at hn1;obtain⟨n,hn⟩ : ∃n,n=opensD (k.t.ds.take j) ino:=⟨_,rfl⟩;rw[←hn]at H1 hn1 ⊢;clear hn;obtain⟨y,hy⟩ : ∃y,y=k.t.ds[j]:=⟨_,rfl⟩;rw[←hy]at d0 d4 H1;clear hy;have wn:IntKind.i64.wrap ((n:Int)+1)=(n:Int)+1:=Go.IntWalk.i64_in _ (by omega);by_cases h1:0<y.refs
    · have i1:decide (0<y.refs)=true:=decide_eq_true h1
      by_cases h2:y.ino=ino
      · have i21:(y.ino == ino)=true:=by simpa using h2
        have i22:decide (y.ino=ino)=true:=decide_eq_true h2;(have i23:(y.ino != ino)=false:=by simpa using h2);have HN:Hid (opensD (k.t.ds.take (j+1)) ino=n+1):=Lib.hid (by rw[H1.out];simp[*]);go_wp2_with fail;go_round
        case rel=>exact⟨j+1,by rw[HN.out];go_num,by go_num,hlt⟩
        case measure=>simp[RowKit.intOf];omega
      · have i21:(y.ino == ino)=false:=by simpa using h2
        have i22:decide (y.ino=ino)=false:=decide_eq_false h2;(have i23:(y.ino != ino)=true:=by simpa using h2);have HN:Hid (opensD (k.t.ds.take (j+1)) ino=n):=Lib.hid (by rw[H1.out];simp[*]);go_wp2_with fail;go_round
        case rel=>exact⟨j+1,by rw[HN.out],by go_num,hlt⟩
        case measure=>simp[RowKit.intOf];omega
    · have i1:decide (0<y.refs)=false:=decide_eq_false h1
      have HN:Hid (opensD (k.t.ds.take (j+1)) ino=n):=Lib.hid (by rw[H1.out];simp[*]);go_wp2_with fail;go_round
      case rel=>exact⟨j+1,by rw[HN.out],by go_num,hlt⟩
      case measure=>simp[RowKit.intOf];omega
  · have iL1:decide (j<k.t.ds.length)=false:=decide_eq_false (by omega)
    have iM1:decide ((j:Int)<(k.t.ds.length:Int))=false:=decide_eq_false (by omega);have ht:k.t.ds.take j=k.t.ds:=List.take_of_length_le (by omega);rw[ht];clear ht hlt;go_wp2_with fail;clear iL1 iM1 c3 hj;go_loop [5,7] (fun n i=>∃j:Nat,n = .int .i64 (opensD k.t.ds ino+opensP (k.ps.take j) ino:Nat)∧i = .int .i64 j∧j≤k.ps.length) (fun _ i=>k.ps.length-(RowKit.intOf i).toNat)
    case atStart=>exact⟨0,rfl,rfl,Nat.zero_le _⟩
    case round =>
     obtain⟨j,rfl,rfl,hj⟩:=hrel;have hl2:=HB.out;have hn0:=opd_le k.t.ds ino;obtain⟨-, -, -, -, -,c5⟩:=cells6 (S1.out.at 0 rfl);by_cases hlt:j<k.ps.length
     · have iL1:decide (j<k.ps.length)=true:=decide_eq_true (by omega)
       have iM1:decide ((j:Int)<(k.ps.length:Int))=true:=decide_eq_true (by omega);(have j0:(0:Int)≤(j:Int):=by omega);(have j1:(j:Int)<(k.ps.length:Int):=by omega);have wj:IntKind.i64.wrap ((j:Int)+1)=(j:Int)+1:=Go.IntWalk.i64_in _ (by omega);obtain⟨b,off,eap, -, -,d2,d3⟩:=PsX.proc (S1.out.g 2 rfl) j hlt;subst eap;have H1:=Lib.hid (opp_next k.ps ino hlt);have hn1:=opp_le (k.ps.take j) ino;rw[List.length_take]at hn1;obtain⟨n,hn⟩ : ∃n,n=opensP (k.ps.take j) ino:=⟨_,rfl⟩;rw[←hn]at H1 hn1 ⊢;clear hn;obtain⟨m,hm⟩ : ∃m,m=opensD k.t.ds ino:=⟨_,rfl⟩;rw[←hm]at hn0 ⊢;clear hm;obtain⟨y,hy⟩ : ∃y,y=k.ps[j]:=⟨_,rfl⟩;rw[←hy]at d2 d3 H1;clear hy;have wn:IntKind.i64.wrap (((m+n:Nat):Int)+1)=((m+n:Nat):Int)+1:=Go.IntWalk.i64_in _ (by omega);have wn2:IntKind.i64.wrap ((m:Int)+(n:Int)+1)=(m:Int)+(n:Int)+1:=Go.IntWalk.i64_in _ (by omega);obtain⟨lv,hlv⟩ : ∃f,f=y.live:=⟨_,rfl⟩;rw[←hlv]at d3 H1;clear hlv
       cases lv with
       | true =>
          by_cases h2:y.cwd=ino
          · have i21:(y.cwd == ino)=true:=by simpa using h2
            have i22:decide (y.cwd=ino)=true:=decide_eq_true h2;(have i23:(y.cwd != ino)=false:=by simpa using h2);have HN:Hid (opensP (k.ps.take (j+1)) ino=n+1):=Lib.hid (by rw[H1.out];simp[*]);go_wp2_with fail;go_round
            case rel=>exact⟨j+1,by rw[HN.out];go_num,by go_num,hlt⟩
            case measure=>simp[RowKit.intOf];omega
          · have i21:(y.cwd == ino)=false:=by simpa using h2
            have i22:decide (y.cwd=ino)=false:=decide_eq_false h2;(have i23:(y.cwd != ino)=true:=by simpa using h2);have HN:Hid (opensP (k.ps.take (j+1)) ino=n):=Lib.hid (by rw[H1.out];simp[*]);go_wp2_with fail;go_round
            case rel=>exact⟨j+1,by rw[HN.out],by go_num,hlt⟩
            case measure=>simp[RowKit.intOf];omega
       | false =>
          have HN:Hid (opensP (k.ps.take (j+1)) ino=n):=Lib.hid (by rw[H1.out];simp[*]);go_wp2_with fail;go_round
          case rel=>exact⟨j+1,by rw[HN.out],by go_num,hlt⟩
          case measure=>simp[RowKit.intOf];omega
     · have iL1:decide (j<k.ps.length)=false:=decide_eq_false (by omega)
       have iM1:decide ((j:Int)<(k.ps.length:Int))=false:=decide_eq_false (by omega);have ht:k.ps.take j=k.ps:=List.take_of_length_le (by omega);rw[ht];clear ht hlt;go_wp2_with fail;go_ret;exact⟨rfl,S1.out.bel⟩
end Go.Proofs.YtkoaicabkgaglaaGreatDoor
namespace Go.Proofs.YtkoaicabkgaglaaGreatDoor
open Go.RowKit Go.Shelf Go.Lib Go.Extern.Stop Go.Stop Go.Extern
abbrev belowV (n:Int):Value:= .iface 277 (.int .i64 n)
abbrev unmetV (p:ByteArray)(c:Value):Value:= .iface 270 (.agg #[.string p,c])
abbrev sentV (a:Addr):Value:= .iface 341 (.pointer (some a))
end Go.Proofs.YtkoaicabkgaglaaGreatDoor
namespace Go.Proofs.YtkoaicabkgaglaaGreatDoor
open Go.RowKit Go.Shelf
abbrev codes:List Nat:= [1,2,3,4,5,6,7,9,11,15]
structure Sent (S:Nat→Addr) (W:World):Prop where
 e1:W.cell? ⟨7,0,none⟩=some (sentV (S 1))
 e2:W.cell? ⟨2,0,none⟩=some (sentV (S 2))
 e3:W.cell? ⟨8,0,none⟩=some (sentV (S 3))
 e4:W.cell? ⟨5,0,none⟩=some (sentV (S 4))
 e5:W.cell? ⟨9,0,none⟩=some (sentV (S 5))
 e6:W.cell? ⟨6,0,none⟩=some (sentV (S 6))
 e7:W.cell? ⟨4,0,none⟩=some (sentV (S 7))
 e9:W.cell? ⟨3,0,none⟩=some (sentV (S 9))
 e11:W.cell? ⟨10,0,none⟩=some (sentV (S 11))
 e15:W.cell? ⟨11,0,none⟩=some (sentV (S 15))
 blk : ∀k∈codes,∃c t,W.heap[(S k).block]? = some (.cells c t (0,0))
 inj : ∀j∈codes,∀k∈codes,j≠k→S j≠S k
 err:W.cell? ⟨0,0,none⟩=some errTypeV
theorem Sent.keep {S:Nat→Addr}{W W':World}(h:Sent S W)(hb:Below W.heap.size W W'):Sent S W' where
 e1:=(hb.cell (p:=⟨7,0,none⟩) (World.block_lt_of_cell? W _ h.e1)).trans h.e1
 e2:=(hb.cell (p:=⟨2,0,none⟩) (World.block_lt_of_cell? W _ h.e2)).trans h.e2
 e3:=(hb.cell (p:=⟨8,0,none⟩) (World.block_lt_of_cell? W _ h.e3)).trans h.e3
 e4:=(hb.cell (p:=⟨5,0,none⟩) (World.block_lt_of_cell? W _ h.e4)).trans h.e4
 e5:=(hb.cell (p:=⟨9,0,none⟩) (World.block_lt_of_cell? W _ h.e5)).trans h.e5
 e6:=(hb.cell (p:=⟨6,0,none⟩) (World.block_lt_of_cell? W _ h.e6)).trans h.e6
 e7:=(hb.cell (p:=⟨4,0,none⟩) (World.block_lt_of_cell? W _ h.e7)).trans h.e7
 e9:=(hb.cell (p:=⟨3,0,none⟩) (World.block_lt_of_cell? W _ h.e9)).trans h.e9
 e11:=(hb.cell (p:=⟨10,0,none⟩) (World.block_lt_of_cell? W _ h.e11)).trans h.e11
 e15:=(hb.cell (p:=⟨11,0,none⟩) (World.block_lt_of_cell? W _ h.e15)).trans h.e15
 blk:=fun k hk=>by
  obtain⟨c,t,hc⟩:=h.blk k hk;exact⟨c,t,(hb.block _ (Array.getElem?_eq_some_iff.1 hc).1).trans hc⟩
 inj:=h.inj
 err:=(hb.cell (p:=⟨0,0,none⟩) (World.block_lt_of_cell? W _ h.err)).trans h.err
def ErrIs (S:Nat→Addr)(n:Int)(v:Value):Prop :=
 (n=0∧v = .nilIface)∨(n≠0∧∃p,v=unmetV p (belowV n))∨(∃k∈codes,n=(k:Int)∧∃p,v=unmetV p (sentV (S k)))
theorem ErrIs.nil {S:Nat→Addr}:ErrIs S 0 .nilIface:= .inl ⟨rfl,rfl⟩
theorem ErrIs.sent {S:Nat→Addr}(k:Nat)(hk:k∈codes)(p:ByteArray):ErrIs S (k:Int) (unmetV p (sentV (S k))):= .inr (.inr ⟨k,hk,rfl,p,rfl⟩)
theorem ErrIs.below {S:Nat→Addr}{n:Int}(h:n≠0)(p:ByteArray):ErrIs S n (unmetV p (belowV n)):= .inr (.inl ⟨h,p,rfl⟩)
theorem code_pos {k:Nat}(h:k∈codes):k≠0:=by rintro rfl;revert h;decide
theorem ErrIs.form {S:Nat→Addr}{n:Int}{v:Value}(h:ErrIs S n v):(n=0∧v = .nilIface)∨(n≠0∧∃p c,v=unmetV p c):=by
 rcases h with h | ⟨h,p,rfl⟩ | ⟨k,hk,rfl,p,rfl⟩
 · exact .inl h
 · exact .inr ⟨h,p,_,rfl⟩
 · exact .inr ⟨by have:=code_pos hk;omega,p,_,rfl⟩
end Go.Proofs.YtkoaicabkgaglaaGreatDoor
namespace Go.Proofs.YtkoaicabkgaglaaGreatDoor
open Go.RowKit Go.Shelf
attribute [local go_sem ↓] Go.wp_at_zero Go.wp_at_succ
structure PlaceL where
 who:Int
 path:Str
 s:SpotL
 dn:NodeL
 nn:NodeL
abbrev pcells (p:PlaceL)(vd vn:Value):Array Value :=
 #[.int .i64 p.who, .string (bs p.path), .int .i64 p.s.dir, .string (bs p.s.name), .int .i64 p.s.ino, .bool p.s.slash, .int .i64 p.dn.kind, .int .i64 p.dn.mode, .int .i64 p.dn.owner, .int .i64 p.dn.links, .int .i64 p.dn.opn, .int .i64 p.dn.up, .string (bs p.dn.data),vd,
  .int .i64 p.nn.kind, .int .i64 p.nn.mode, .int .i64 p.nn.owner, .int .i64 p.nn.links, .int .i64 p.nn.opn, .int .i64 p.nn.up, .string (bs p.nn.data),vn]
end Go.Proofs.YtkoaicabkgaglaaGreatDoor
namespace Go.Proofs.YtkoaicabkgaglaaGreatDoor
open Go.RowKit Go.Shelf
attribute [local go_sem ↓] Go.wp_at_zero Go.wp_at_succ
def TellsE (S:Nat→Addr)(n:Int)(e:Ending)(w w':World):Prop:=∃v,e = .returned v∧ErrIs S n v∧Below w.heap.size w w'
theorem TellsE.of {S:Nat→Addr}{n m:Int}{v:Value}{w w':World}(h:m=n)(hv:ErrIs S n v)(hb:Below w.heap.size w w'):TellsE S m (.returned v) w w':=⟨v,rfl,by rw[h];exact hv,hb⟩
end Go.Proofs.YtkoaicabkgaglaaGreatDoor
namespace Go.Proofs.YtkoaicabkgaglaaGreatDoor
open Go.RowKit Go.Shelf
attribute [local go_sem ↓] Go.wp_at_zero Go.wp_at_succ
structure Ord (l:List NodeL):Prop where
 len:l.length≤10000
 nm : ∀n∈l,n.names.length≤10000
 up : ∀n∈l,Up n.names
theorem Ord.node {l:List NodeL}(h:Ord l)(i:Int):(nodeL l i).names.length≤10000∧Up (nodeL l i).names:=by
 unfold nodeL;split
 · unfold atI
   rcases Nat.lt_or_ge i.toNat l.length with h1 | h1
   · rw[List.getD_eq_getElem?_getD,List.getElem?_eq_getElem h1];exact⟨h.nm _ (List.getElem_mem _),h.up _ (List.getElem_mem _)⟩
   · rw[List.getD_eq_getElem?_getD,List.getElem?_eq_none h1];exact⟨Nat.zero_le _,List.Pairwise.nil⟩
 · exact⟨Nat.zero_le _,List.Pairwise.nil⟩
theorem Ord.set {l:List NodeL}(h:Ord l){n:NodeL}(h1:n.names.length≤10000)(h2:Up n.names)(i:Int):Ord (setL l i n):=by
 unfold setL;split
 · refine⟨by rw[List.length_set];exact h.len,fun m hm=> ?_,fun m hm=> ?_⟩
   · rcases List.mem_or_eq_of_mem_set hm with hm | rfl
     · exact h.nm m hm
     · exact h1
   · rcases List.mem_or_eq_of_mem_set hm with hm | rfl
     · exact h.up m hm
     · exact h2
 · exact h
theorem Dsk.ord {l:List NodeL}(h:Dsk l):Ord l:=by
 refine⟨h.len,fun n hn=>Nat.le_trans (h.sm.2 n hn).2 (by decide),fun n hn=> ?_⟩;obtain⟨k,hk,rfl⟩:=List.mem_iff_getElem.1 hn;rw[←nd_lt hk];exact(Rig.sorted (Rig.of h.rig).1 k).2
end Go.Proofs.YtkoaicabkgaglaaGreatDoor
namespace Go.Proofs.YtkoaicabkgaglaaGreatDoor
open Go.RowKit Go.Shelf
attribute [local go_sem ↓] Go.wp_at_zero Go.wp_at_succ
def PlcIs (X:Nat→Prop)(S:Nat→Addr)(p:PlaceL)(n:Int)(e:Ending)(w w':World):Prop :=
 ∃v aod capd aon capn,e = .returned (.tuple #[.agg (pcells p (.slice aod p.dn.names.length capd) (.slice aon p.nn.names.length capn)),v])∧ErrIs S n v∧NodeX X p.dn (.slice aod p.dn.names.length capd) w'∧NodeX X p.nn (.slice aon p.nn.names.length capn) w'∧Below w.heap.size w w'
theorem PlcIs.of {X:Nat→Prop}{S:Nat→Addr}{p q:PlaceL}{n m:Int}{v:Value}{aod aon:Option Addr}{capd capn:Nat}{w w':World}(hp:q=p)(hn:m=n)(hv:ErrIs S n v)(h1:NodeX X p.dn (.slice aod p.dn.names.length capd) w')(h2:NodeX X p.nn (.slice aon p.nn.names.length capn) w')(hb:Below w.heap.size w w') :
 PlcIs X S q m (.returned (.tuple #[.agg (pcells p (.slice aod p.dn.names.length capd) (.slice aon p.nn.names.length capn)),v])) w w':=by
 subst hp;subst hn;exact⟨v,aod,capd,aon,capn,rfl,hv,h1,h2,hb⟩
end Go.Proofs.YtkoaicabkgaglaaGreatDoor
namespace Go.Proofs.YtkoaicabkgaglaaGreatDoor
open Go.RowKit Go.Shelf
attribute [local go_sem ↓] Go.wp_at_zero Go.wp_at_succ
theorem wpList_load_rowG {P:Program}{ops:Array Oper}{rest:List Oper}{o:Oper}{a:Act}{w:World}{Q:Exit→Act→World→Prop}(hw:Region.wanted o (yielded ops a.tmps)=true)(ty:TypeId)(x:Operand)(ho:o.op = .load ty x)
 (g:Nat) (hx:a.eval x = .pointer (some ⟨g,0,none⟩)) (t:TypeId) (cs:Array Value) (fr:Nat × Nat) (d:TypeDesc) (hg:w.heap[g]? = some (.cells cs t fr))
 (hu:P.underlying ty=some d) (hd:(match d with | .struct _ | .array _ _=>true | _=>false)=true) (hi:(P.info? ty).map (·.size)=some cs.size)
 (h:wpList P ops Q rest (a.put o.dst (.agg cs)) w):wpList P ops Q (o::rest) a w :=
  wpList_step fun _ hK=>by rw[if_pos hw];exact wp_load_row ty x ho g hx t cs fr d hg hu hd hi (hK _ _ h)
end Go.Proofs.YtkoaicabkgaglaaGreatDoor
namespace Go.Proofs.YtkoaicabkgaglaaGreatDoor
open Go.RowKit Go.Shelf
attribute [local go_sem ↓] Go.wp_at_zero Go.wp_at_succ
theorem rangeAt8 {W:World}{b o:Nat}{v0 v1 v2 v3 v4 v5 v6 v7:Value}(h0:W.cell? ⟨b,o,none⟩=some v0)(h1:W.cell? ⟨b,o+1,none⟩=some v1)(h2:W.cell? ⟨b,o+2,none⟩=some v2)(h3:W.cell? ⟨b,o+3,none⟩=some v3)(h4:W.cell? ⟨b,o+4,none⟩=some v4)(h5:W.cell? ⟨b,o+5,none⟩=some v5)(h6:W.cell? ⟨b,o+6,none⟩=some v6)(h7:W.cell? ⟨b,o+7,none⟩=some v7):W.rangeAt b o [v0,v1,v2,v3,v4,v5,v6,v7]:=by
 intro j v hv;rcases j with _ | _ | _ | _ | _ | _ | _ | _ | j
 · obtain rfl:=Option.some.inj hv;exact h0
 · obtain rfl:=Option.some.inj hv;exact h1
 · obtain rfl:=Option.some.inj hv;exact h2
 · obtain rfl:=Option.some.inj hv;exact h3
 · obtain rfl:=Option.some.inj hv;exact h4
 · obtain rfl:=Option.some.inj hv;exact h5
 · obtain rfl:=Option.some.inj hv;exact h6
 · obtain rfl:=Option.some.inj hv;exact h7
 · simp at hv
end Go.Proofs.YtkoaicabkgaglaaGreatDoor
namespace Go.Proofs.YtkoaicabkgaglaaGreatDoor
open Go.RowKit Go.Shelf
attribute [local go_sem ↓] Go.wp_at_zero Go.wp_at_succ
theorem DiskX.range {l:List NodeL}{ao:Option Addr}{cap:Nat}{X:Nat→Prop}{W:World}(h:DiskX l (.slice ao l.length cap) X W)(i:Nat)(hi:i<l.length) : ∃b off aon capn,ao=some ⟨b,off,none⟩∧W.rangeAt b (off+i*8) [.int .i64 (l[i]).kind, .int .i64 (l[i]).mode, .int .i64 (l[i]).owner, .int .i64 (l[i]).links, .int .i64 (l[i]).opn, .int .i64 (l[i]).up, .string (bs (l[i]).data), .slice aon (l[i]).names.length capn]:=by
 obtain⟨ms,rfl,hr,_⟩:=h;(have hi2:i<ms.length:=by rwa [pl_len]at hi);rw[pl_len]at hr;obtain⟨b,off,n,aon,capn,e1,_,e2,_,_,h0,h1,h2,h3,h4,h5,h6,h7⟩:=node_at hr i hi2;rw[e2];exact⟨b,off,aon,capn,e1,rangeAt8 h0 h1 h2 h3 h4 h5 h6 h7⟩
def opnA (k:KernL)(i j:Nat):List Int:=(List.range k.l.length).map fun(q:Nat)=>((opensD (k.t.ds.take i) (q:Int)+opensP (k.ps.take j) (q:Int):Nat):Int)
section
variable {k:KernL}
theorem opnA_len (i j:Nat):(opnA k i j).length=k.l.length:=by unfold opnA;rw[List.length_map,List.length_range]
theorem opnA_at (i j:Nat){q:Nat}(h:q<(opnA k i j).length):(opnA k i j)[q]=((opensD (k.t.ds.take i) (q:Int)+opensP (k.ps.take j) (q:Int):Nat):Int):=by
 simp only[opnA,List.getElem_map,List.getElem_range]
theorem opnA_zero:opnA k 0 0=List.replicate k.l.length (0:Int):=by
 apply List.ext_getElem
 · rw[opnA_len,List.length_replicate]
 · intro q h1 h2
   rw[opnA_at,List.getElem_replicate];rfl
theorem opnA_desc {i:Nat}(hi:i<k.t.ds.length){q:Nat}(hr:0<(k.t.ds[i]).refs)(he:(k.t.ds[i]).ino=(q:Int)):opnA k (i+1) 0=(opnA k i 0).set q ((opensD (k.t.ds.take i) (q:Int):Int)+1):=by
 apply List.ext_getElem
 · rw[List.length_set,opnA_len,opnA_len]
 · intro j h1 h2
   rw[opnA_at,List.getElem_set,opd_next _ _ hi,decide_eq_true hr,he,Bool.true_and];by_cases e:q=j
   · subst e
     rw[if_pos rfl,decide_eq_true rfl,if_pos rfl];simp[opensP]
   · rw[if_neg e,decide_eq_false (by omega),opnA_at]
     rfl
theorem opnA_skip {i:Nat}(hi:i<k.t.ds.length)(hr: ¬0<(k.t.ds[i]).refs):opnA k (i+1) 0=opnA k i 0:=by
 apply List.ext_getElem
 · rw[opnA_len,opnA_len]
 · intro j h1 h2
   rw[opnA_at,opnA_at,opd_next _ _ hi,decide_eq_false hr,Bool.false_and];rfl
theorem opnA_proc {n j:Nat}(hj:j<k.ps.length){q:Nat}(hl:(k.ps[j]).live=true)(he:(k.ps[j]).cwd=(q:Int)):opnA k n (j+1)=(opnA k n j).set q (((opensD (k.t.ds.take n) (q:Int)+opensP (k.ps.take j) (q:Int):Nat):Int)+1):=by
 apply List.ext_getElem
 · rw[List.length_set,opnA_len,opnA_len]
 · intro i h1 h2
   rw[opnA_at,List.getElem_set,opp_next _ _ hj,hl,he,Bool.true_and];by_cases e:q=i
   · subst e
     rw[if_pos rfl,decide_eq_true rfl,if_pos rfl];omega
   · rw[if_neg e,decide_eq_false (by omega),opnA_at]
     rfl
theorem opnA_dead {n j:Nat}(hj:j<k.ps.length)(hl:(k.ps[j]).live=false):opnA k n (j+1)=opnA k n j:=by
 apply List.ext_getElem
 · rw[opnA_len,opnA_len]
 · intro i h1 h2
   rw[opnA_at,opnA_at,opp_next _ _ hj,hl,Bool.false_and];rfl
theorem opnA_small (i j:Nat)(q:Int)(hd:k.t.ds.length≤1000)(hp:k.ps.length≤1000):opensD (k.t.ds.take i) q+opensP (k.ps.take j) q≤2000:=by
 have h1:=opd_le (k.t.ds.take i) q;have h2:=opp_le (k.ps.take j) q;have h3:=List.length_take_le i k.t.ds;have h4:=List.length_take_le j k.ps;have h5:=List.length_take_le' i k.t.ds;have h6:=List.length_take_le' j k.ps;omega
theorem kind_got {l:List NodeL}{i:Int}(h:(nodeL l i).kind≠0):gotB l i=true:=by
 rcases nodeL_cases l i with⟨j,rfl,hk,_⟩ | ⟨_,e⟩
 · exact(got_nd l j).2 hk
 · rw[e]at h;exact absurd rfl h
def openedB (k:KernL):Bool:=k.t.ds.all (descGot k) && (List.range k.l.length).all (nodeOpn k)
theorem open_no {i:Nat}(hi:i<k.t.ds.length)(hr:0<(k.t.ds[i]).refs)(hg:gotB k.l (k.t.ds[i]).ino=false):openedB k=false:=by
 unfold openedB;rw[show k.t.ds.all (descGot k)=false from ?_,Bool.false_and];rw[List.all_eq_false];exact⟨_,List.getElem_mem hi,by unfold descGot;rw[decide_eq_true hr,hg];decide⟩
theorem open_node {i:Nat}(hi:i<k.l.length)(hk:(nd k.l i).kind≠0)(ho:(nd k.l i).opn≠opensN k i):openedB k=false:=by
 unfold openedB;rw[show(List.range k.l.length).all (nodeOpn k)=false from ?_,Bool.and_false];rw[List.all_eq_false];exact⟨i,List.mem_range.2 hi,by unfold nodeOpn;rw[decide_eq_false hk,decide_eq_false ho];decide⟩
theorem open_yes (h1 : ∀d∈k.t.ds,descGot k d=true)(h2 : ∀i:Nat,i<k.l.length→(nd k.l i).opn=opensN k i):openedB k=true:=by
 unfold openedB;rw[Bool.and_eq_true,List.all_eq_true,List.all_eq_true];exact⟨h1,fun i hi=>by unfold nodeOpn;rw[h2 i (List.mem_range.1 hi),decide_eq_true rfl,Bool.or_true]⟩
theorem free_open {i:Nat}(hk:(nd k.l i).kind=0)(h1 : ∀d∈k.t.ds,descGot k d=true)(h2 : ∀x∈k.ps,x.live=true→(nodeL k.l x.cwd).kind=2):opensN k i=0:=by
 have a1:opensD k.t.ds (i:Int)=0:=by
  unfold opensD;rw[List.countP_eq_zero];intro d hd hh;rw[Bool.and_eq_true,decide_eq_true_iff,decide_eq_true_iff]at hh;have:=h1 d hd;unfold descGot at this;rw[decide_eq_true hh.1,hh.2]at this;exact absurd hk ((got_nd _ _).1 (by simpa using this))
 have a2:opensP k.ps (i:Int)=0:=by
  unfold opensP;rw[List.countP_eq_zero];intro x hx hh;rw[Bool.and_eq_true,decide_eq_true_iff]at hh;have:=h2 x hx hh.1;rw[hh.2,not_got hk]at this;exact absurd this (by decide)
 unfold opensN;rw[a1,a2]
end
theorem nd_in (l:List NodeL)(i:Nat)(h:i<l.length):nd l i=l[i]:=by unfold nd;rw[List.getD_eq_getElem?_getD,List.getElem?_eq_getElem h];rfl
theorem refs_pos {t:TabL}(h:RightT t){i:Nat}(hi:i<t.ds.length):0≤(t.ds[i]).refs:=by
 rw[(h.2 i _ (List.getElem?_eq_getElem hi)).1];exact Int.natCast_nonneg _
theorem right_free {l:List NodeL}{most room:Int}(h:rightR l most room=true)(i:Nat)(hk:(nd l i).kind=0):(nd l i).opn=0:=by
 rcases Nat.lt_or_ge i l.length with hi | hi
 · unfold rightR at h
   simp only[Bool.and_eq_true,List.all_eq_true,List.mem_range]at h;have h1:=h.2 i hi;rw[at_nat l i hi,←nd_in l i hi]at h1;unfold okR at h1;rw[if_pos hk,decide_eq_true_iff]at h1;rw[h1];rfl
 · unfold nd
   rw[List.getD_eq_getElem?_getD,List.getElem?_eq_none hi];rfl
theorem rightK_parts {k:KernL}:rightK k=((rightR k.l k.most k.room && (rightB k.t && (decide (k.t.fs.length=8) && decide (k.ps.length≤8)))) && ((List.range 8).all (procOk k) && openedB k)):=rfl
theorem procs_cwd {k:KernL}(h8:k.ps.length≤8)(h : ∀p:Nat,p<8→procOk k p=true) : ∀x∈k.ps,x.live=true→(nodeL k.l x.cwd).kind=2:=by
 intro x hx hl;obtain⟨p,hp,rfl⟩:=List.mem_iff_getElem.1 hx;have h1:=h p (by omega);have hv:=live_at hp;unfold procOk at h1;rw[if_pos (by rw[hv.1];exact hl),hv.2,Bool.and_eq_true,decide_eq_true_iff]at h1;exact h1.1
theorem desc_ino {t:TabL}{b off cd cf:Nat}{af:Option Addr}{X:Nat→Prop}{W:World}(h:TabX t (.slice (some ⟨b,off,none⟩) t.ds.length cd) (.slice af t.fs.length cf) X W){j:Nat}(hj:j<t.ds.length):W.cell? ⟨b,off+j*6,none⟩=some (.int .i64 (t.ds[j]).ino):=by
 obtain⟨b',o',e,d0, -, -, -, -, -⟩:=h.desc j hj;injection e with e;injection e with e1 e2 _;subst e1;subst e2;exact d0
theorem desc_refs {t:TabL}{b off cd cf:Nat}{af:Option Addr}{X:Nat→Prop}{W:World}(h:TabX t (.slice (some ⟨b,off,none⟩) t.ds.length cd) (.slice af t.fs.length cf) X W){j:Nat}(hj:j<t.ds.length):W.cell? ⟨b,off+j*6+4,none⟩=some (.int .i64 (t.ds[j]).refs):=by
 obtain⟨b',o',e, -, -, -, -,d4, -⟩:=h.desc j hj;injection e with e;injection e with e1 e2 _;subst e1;subst e2;exact d4
theorem node_kind {l:List NodeL}{b off cap:Nat}{X:Nat→Prop}{W:World}(h:DiskX l (.slice (some ⟨b,off,none⟩) l.length cap) X W){i:Nat}(hi:i<l.length):W.cell? ⟨b,off+i*8,none⟩=some (.int .i64 (l[i]).kind):=by
 obtain⟨ms,rfl,hr,_⟩:=h;(have hi2:i<ms.length:=by rwa [pl_len]at hi);rw[pl_len]at hr;obtain⟨b',o',n,aon,capn,e,_,e2,_,_,h0, -⟩:=node_at hr i hi2;injection e with e;injection e with e1 e3 _;subst e1;subst e3;rw[e2];exact h0
theorem node_opn {l:List NodeL}{b off cap:Nat}{X:Nat→Prop}{W:World}(h:DiskX l (.slice (some ⟨b,off,none⟩) l.length cap) X W){i:Nat}(hi:i<l.length):W.cell? ⟨b,off+i*8+4,none⟩=some (.int .i64 (l[i]).opn):=by
 obtain⟨ms,rfl,hr,_⟩:=h;(have hi2:i<ms.length:=by rwa [pl_len]at hi);rw[pl_len]at hr;obtain⟨b',o',n,aon,capn,e,_,e2,_,_, -, -, -, -,h4, -⟩:=node_at hr i hi2;injection e with e;injection e with e1 e3 _;subst e1;subst e3;rw[e2];exact h4
end Go.Proofs.YtkoaicabkgaglaaGreatDoor
namespace Go.Proofs.YtkoaicabkgaglaaGreatDoor
open Go.RowKit Go.Shelf
attribute [local go_sem ↓] Go.wp_at_zero Go.wp_at_succ
structure SmallK (k:KernL):Prop where
 most:k.most≤100
 room:k.room≤1000
 nodes:k.l.length≤100
 each : ∀q:Nat,q<k.l.length→(nd k.l q).data.length≤1200∧(nd k.l q).names.length≤100
 ds:k.t.ds.length≤100
 fs:k.t.fs.length≤20
 rows : ∀r∈k.t.fs,r.length≤20
 ps:k.ps.length≤20
theorem SmallK.node {k:KernL}(h:SmallK k) : ∀n∈k.l,n.data.length≤1200∧n.names.length≤100:=fun n hn=>by
 obtain⟨q,hq,rfl⟩:=List.mem_iff_getElem.1 hn;have:=h.each q hq
 rwa [nd_in _ _ hq]at this
theorem SmallK.disk {k:KernL}(h:SmallK k):Small k.l:=⟨Nat.le_trans h.nodes (by decide),fun n hn=>⟨Nat.le_trans (h.node n hn).1 (by decide),Nat.le_trans (h.node n hn).2 (by decide)⟩⟩
theorem SmallK.tab {k:KernL}(h:SmallK k):SizeT k.t:=⟨Nat.le_trans h.ds (by decide),h.fs,h.rows⟩
theorem SmallK.siz {k:KernL}(h:SmallK k):KrnS 100 k:=⟨h.most,h.room,fun n hn=>(h.node n hn).2,h.ds⟩
end Go.Proofs.YtkoaicabkgaglaaGreatDoor
namespace Go.Proofs.YtkoaicabkgaglaaGreatDoor
open Go.RowKit Go.Shelf
attribute [local go_sem ↓] Go.wp_at_zero Go.wp_at_succ
theorem bel_al2 {w W0 W1:World}{o:Obj}(h:Below w.heap.size w W0)(hs:W0.heap.size=w.heap.size+1)(g:Below W0.heap.size W0 W1):Below w.heap.size w (W1.alloc o) :=
 (h.trans (g.mono (by omega))).alloc (by have:=g.size;omega) o
theorem rootR_step (l:List NodeL)(f:Nat)(j:Int)(h:j≠0):rootR l (f+1) j=if gotB l j && decide ((atI l j).kind=2)then rootR l f (atI l j).up else false:=by
 conv=>lhs;unfold rootR
 rw[if_neg h]
set_option maxRecDepth 100000 in
set_option maxHeartbeats 2000000 in
theorem rooted_any (v:Value)(ms:List NodeM)(most room i:Int)(w:World)(hv:RdM w.heap.size v ms w)(hl:ms.length≤10000) :
 Calls Tryz.prog 78 #[.agg #[v, .int .i64 most, .int .i64 room], .int .i64 i] w fun e w'=>e = .returned (.bool (rootR (pl ms) (ms.length+1) i))∧Below w.heap.size w w':=by
 obtain⟨ao,cap,rfl,_,_⟩:=rdm_form hv;have HV:=Lib.hid hv;clear hv;go_enter Tryz.func78,Tryz.ntmps78;go_wp2_with fail;refine fresh1 (P:=fun W=>Code.wp _ _ _ _ W) ?_;intro W0 hb0 hP hs0;go_loopw [1,5] (fun j' k' wr=>∃(k:Nat) (j:Int),j' = .int .i64 j∧k' = .int .i64 k∧k≤ms.length+1∧Hid (rootR (pl ms) (ms.length+1) i=rootR (pl ms) (ms.length+1-k) j)∧Below W0.heap.size W0 wr) (fun _ k' _=>ms.length+1-(intOf k').toNat)
 case atStart=>exact⟨0,i,rfl,rfl,Nat.zero_le _,Lib.hid rfl,Below.refl _ _⟩
 case round =>
  obtain⟨k,j,rfl,rfl,hk,hR,hBr⟩:=hrel;have hPr:=(hBr.block _ (by omega)).trans hP;obtain⟨p0,p1,p2⟩:=cells3 hPr;have hBw:Below w.heap.size w wr:=hb0.trans (hBr.mono (by omega));have sB:=hBr.size;by_cases hlt:k≤ms.length
  · have hI:decide ((k:Int)≤(ms.length:Int))=true:=by simpa using hlt
    obtain⟨f,hf,hf2⟩ : ∃f,ms.length+1-k=f+1∧f=ms.length+1-(k+1):=⟨ms.length-k,by omega,by omega⟩;have hR':=hR.out;rw[hf]at hR';by_cases hj:j=0
    · have hJ:(j == 0)=true:=by simpa using hj
      have HF:Hid (rootR (pl ms) (ms.length+1) i=true):=Lib.hid (by rw[hR',hj];rfl);clear hR' hj hf hf2;go_wp2_with fail;go_ret;exact⟨ret_bool HF.out.symm,hBw⟩
    · have hJ:(j == 0)=false:=by simpa using hj
      rw[rootR_step _ _ _ hj]at hR';have HR':=Lib.hid hR';clear hR' hj hf;go_wp2_with fail;refine(rget_any (.slice ao ms.length cap) ms most room j wr (rdm_keep HV.out hBw) hl).mono ?_;intro e W1 hget;obtain⟨v1,rfl,hrn,hb1⟩:=hget;obtain⟨aon,capn,ev,_,_⟩:=Rd.form hrn;have ev':v1 = .slice aon (getL (pl ms) j).names.length capn:=ev;subst ev';have hB1:=ret_tr hBr hb1;clear hrn ev p0 p1 p2
      cases hg:gotB (pl ms) j with
      | false =>
         have HF:Hid (rootR (pl ms) (ms.length+1) i=false):=Lib.hid (by rw[HR'.out,hg];rfl);generalize getL (pl ms) j=n at *;clear hg;go_wp2_with fail;go_ret;exact⟨ret_bool HF.out.symm,bel_al2 hb0 hs0 hB1⟩
      | true =>
         (have hgl:getL (pl ms) j=atI (pl ms) j:=by unfold getL;rw[hg];rfl);rw[hgl];rw[hg]at HR';generalize atI (pl ms) j=n at *;by_cases h2:n.kind=2
         · have hK:(n.kind != 2)=false:=by simpa using h2
           (have hd:decide (n.kind=2)=true:=by simpa using h2);rw[hd]at HR';have HX:Hid (rootR (pl ms) (ms.length+1) i=rootR (pl ms) (ms.length+1-(k+1)) n.up):=Lib.hid (by rw[HR'.out,←hf2];rfl);clear h2 hd hg hgl HR';go_wp2_with fail;go_roundw
           case rel=>exact⟨k+1,n.up,rfl,by go_num,by omega,HX,hB1.alloc hB1.size _⟩
           case measure=>simp[intOf];omega
         · have hK:(n.kind != 2)=true:=by simpa using h2
           (have hd:decide (n.kind=2)=false:=by simpa using h2);rw[hd]at HR';have HF:Hid (rootR (pl ms) (ms.length+1) i=false):=Lib.hid (by rw[HR'.out];rfl);clear h2 hd hg hgl HR';go_wp2_with fail;go_ret;exact⟨ret_bool HF.out.symm,bel_al2 hb0 hs0 hB1⟩
  · have hke:k=ms.length+1:=by omega
    have HF:Hid (rootR (pl ms) (ms.length+1) i=false):=Lib.hid (by rw[hR.out,hke,Nat.sub_self];rfl);(have hI2:decide (k≤ms.length)=false:=by simp;omega);clear hke hlt;go_wp2_with fail;go_ret;exact⟨ret_bool HF.out.symm,hBw⟩
end Go.Proofs.YtkoaicabkgaglaaGreatDoor
