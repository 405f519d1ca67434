import Derived.Test.YtgbmmcnadmfikaaGreatDoorR19
import Derived.Deep.RegionHeld3
import Derived.WalkMore
import Derived.Deep.DrawnRows
import Derived.Laws.Cover1
import Derived.Lib.Bytealg
import Derived.Test.YtgbmmcnadmfikaaGreatDoorProg
namespace Go.Proofs.YtgbmmcnadmfikaaGreatDoor
open Go.RowKit Go.Shelf
attribute [local go_sem ↓] Go.wp_at_zero Go.wp_at_succ
theorem results_tct {P:Program}{fn:Func}{p u v:Tmp}{ty:TypeId}(h:fn.results = #[.tmp u, .cell p ty, .tmp v])(tmps:Array Value)(w:World)(g:Nat)(t:TypeId)(cs:Array Value)(fr:Nat × Nat)(d:TypeDesc)
 (hp:tmps.getD p undef = .pointer (some ⟨g,0,none⟩)) (hg:w.heap[g]? = some (.cells cs t fr)) (hu:P.underlying ty=some d) (hd:(match d with | .struct _ | .array _ _=>true | _=>false)=true) (hi:(P.info? ty).map (·.size)=some cs.size) :
 (results fn tmps).run P w = .ok (.tuple #[tmps.getD u undef, .agg cs,tmps.getD v undef]) w:=by
  (have hp':tmps[p]?.getD undef = .pointer (some ⟨g,0,none⟩):=by simpa using hp);simp[results,h,hp',asAddr,run_loadVar_row w g t ty cs fr d hg hu hd hi,Result.andThen]
theorem TabX.range {t:TabL}{X:Nat→Prop}{W:World}{ad af:Option Addr}{cap capf:Nat}(h:TabX t (.slice ad t.ds.length cap) (.slice af t.fs.length capf) X W)(k:Nat)(hk:k<t.ds.length) : ∃b off,ad=some ⟨b,off,none⟩∧W.rangeAt b (off+k*6) (dcells t.ds[k]):=by
 obtain⟨b,off,e,c0,c1,c2,c3,c4,c5⟩:=h.desc k hk;refine⟨b,off,e,fun j v hv=> ?_⟩
 have hj:j<6:=by
  rcases Nat.lt_or_ge j 6 with h | h
  · exact h
  · rw[List.getElem?_eq_none (by exact h)]at hv;cases hv
 (have:j=0∨j=1∨j=2∨j=3∨j=4∨j=5:=by omega);rcases this with rfl | rfl | rfl | rfl | rfl | rfl<;>(injection hv with hv;subst hv;assumption)
theorem no_get {t:TabL}{p fd:Int}(h:hasT t p fd=false):placeT t p fd = -1∧foundT t p fd=zeroD:=by
 unfold placeT foundT;rw[if_neg (by simp[h]),if_neg (by simp[h])];exact⟨rfl,rfl⟩
def GotIs (t:TabL)(p fd:Int)(e:Ending):Prop:=e = .returned (.tuple #[.int .i64 (placeT t p fd),dvalD (foundT t p fd), .bool (hasT t p fd)])
theorem got_no {t:TabL}{p fd:Int}(h:hasT t p fd=false):GotIs t p fd (.returned (.tuple #[.int .i64 (-1), .agg #[.int .i64 0, .int .i64 0, .bool false, .bool false, .int .i64 0, .int .i64 0], .bool false])):=by
 unfold GotIs;rw[(no_get h).1,(no_get h).2,h];rfl
theorem has_no3 {t:TabL}{p fd:Int}(h:fd<0):hasT t p fd=false:=by unfold hasT;rw[decide_eq_false (show ¬0≤fd by omega)];simp
theorem has_no4 {t:TabL}{k:Nat}{fd:Int}(hk:k<t.fs.length)(h:((t.fs[k]).length:Int)≤fd):hasT t (k:Int) fd=false:=by unfold hasT;rw[row_at hk,decide_eq_false (show ¬fd<((t.fs[k]).length:Int)by omega)];simp
theorem has_no5 {t:TabL}{k m:Nat}(hk:k<t.fs.length)(hm:m<(t.fs[k]).length)(h:(t.fs[k])[m]<0):hasT t (k:Int) (m:Int)=false:=by unfold hasT;rw[row_at hk,at_R hm,decide_eq_false (show ¬0≤(t.fs[k])[m]by omega)];simp
theorem has_yes {t:TabL}{k m:Nat}(hk:k<t.fs.length)(hm:m<(t.fs[k]).length)(h:0≤(t.fs[k])[m]):hasT t (k:Int) (m:Int)=true:=by
 unfold hasT inT;rw[row_at hk,at_R hm,decide_eq_true h,decide_eq_true (show(0:Int)≤(k:Int)by omega),decide_eq_true (show(k:Int)<(t.fs.length:Int)by omega),decide_eq_true (show(0:Int)≤(m:Int)by omega),decide_eq_true (show(m:Int)<((t.fs[k]).length:Int)by omega)];rfl
def SizeT (t:TabL):Prop:=t.ds.length≤1000∧t.fs.length≤20∧∀r∈t.fs,r.length≤20
theorem count_step (r:List Int)(k:Nat)(h:k<r.length):countR (r.take (k+1))=countR (r.take k)+if 0≤r[k]then 1 else 0:=by
 unfold countR;rw[List.take_succ_eq_append_getElem h,List.countP_append,List.countP_singleton];simp only[decide_eq_true_eq]
theorem count_le (r:List Int):countR r≤r.length:=List.countP_le_length
set_option maxRecDepth 100000 in
set_option maxHeartbeats 4000000 in
theorem rcount_c {X:Nat→Prop}(t:TabL)(ad af:Option Addr)(cap capf:Nat)(w:World)(hT:TabX t (.slice ad t.ds.length cap) (.slice af t.fs.length capf) X w)(p:Int)(hz:SizeT t) :
 Calls Tryz.prog 35 #[tabV ad t.ds.length cap af t.fs.length capf, .int .i64 p] w fun e w'=>e = .returned (.int .i64 (countT t p))∧Below w.heap.size w w':=by
 have S0:=Lib.hid (Sf.start (w:=w) (X:=fun _=>False) (G:= [TabX t (.slice ad t.ds.length cap) (.slice af t.fs.length capf)]) (fun _ h=>h.elim) (th1 (TabX.firm _ _ _) ((TabX.firm _ _ _).sub hT fun _ h=>h.elim)));have HZ:=Lib.hid hz;clear hT hz;go_enter Tryz.func35,Tryz.ntmps35;go_upto_region 1 with(fail);refine code_fresh1 ?_;intro W1 hb hA0 hs;have S1:=Lib.hid (S0.out.new1 hb hA0);clear hb hA0 hs;obtain⟨d0,d1⟩:=cells2 (S1.out.at 0 rfl);by_cases h1:p<0
 · have i1:decide (p<0)=true:=decide_eq_true h1
   have HC:Hid (countT t p=0):=Lib.hid (by unfold countT inT;rw[decide_eq_false (show ¬0≤p by omega)];rfl);go_wp2_with fail;go_ret;exact⟨by rw[HC.out];rfl,S1.out.bel⟩
 · have i1:decide (p<0)=false:=decide_eq_false h1
   by_cases h2:(t.fs.length:Int)≤p
   · have i2:decide ((t.fs.length:Int)≤p)=true:=decide_eq_true h2
     have HC:Hid (countT t p=0):=Lib.hid (by unfold countT inT;rw[decide_eq_false (show ¬p<(t.fs.length:Int)by omega)];simp);go_wp2_with fail;go_ret;exact⟨by rw[HC.out];rfl,S1.out.bel⟩
   · have i2:decide ((t.fs.length:Int)≤p)=false:=decide_eq_false h2
     obtain⟨a,rfl⟩:=Int.eq_ofNat_of_zero_le (show 0≤p by omega);have i21:decide (t.fs.length≤a)=false:=decide_eq_false (by omega);(have ha:a<t.fs.length:=by omega);(have a0:(0:Int)≤(a:Int):=by omega);(have a1:(a:Int)<(t.fs.length:Int):=by omega);clear h1 h2;have HC:Hid (countT t a=countR (t.fs[a])):=Lib.hid (by unfold countT inT;rw[decide_eq_true (show(0:Int)≤(a:Int)by omega),decide_eq_true (show(a:Int)<(t.fs.length:Int)by omega),row_at ha];rfl);have hzr:=HZ.out.2.2 _ (List.getElem_mem ha);obtain⟨b,off,ar,cr,eaf,_,cR,hR⟩:=TabX.row (S1.out.g 0 rfl) a ha;subst eaf;obtain⟨r,hrow⟩ : ∃r,r=t.fs[a]:=⟨_,rfl⟩;rw[←hrow]at cR hR HC hzr;clear hrow;go_wp2_with fail;go_loop [5,6] (fun n i=>∃k:Nat,i = .int .i64 k∧k≤r.length∧n = .int .i64 (countR (r.take k):Nat)) (fun _ i=>r.length-(RowKit.intOf i).toNat)
     case atStart=>exact⟨0,rfl,Nat.zero_le _,rfl⟩
     case round =>
      obtain⟨k,rfl,hk,rfl⟩:=hrel;by_cases hlt:k<r.length
      · have iL:decide (k<r.length)=true:=decide_eq_true hlt
        have iL2:decide ((k:Int)<(r.length:Int))=true:=decide_eq_true (by omega);obtain⟨b2,off2,ear,cI⟩:=RdX.int hR k hlt;subst ear;obtain⟨v,hv⟩ : ∃v,v=r[k]:=⟨_,rfl⟩;have HS:=Lib.hid (count_step r k hlt);have hle:countR (r.take k)≤20:=Nat.le_trans (count_le _) (by rw[List.length_take];omega);rw[←hv]at cI HS;(have k0:(0:Int)≤(k:Int):=by omega);(have k1:(k:Int)<(r.length:Int):=by omega);have w1:IntKind.i64.wrap ((k:Int)+1)=(k:Int)+1:=Go.IntWalk.i64_in _ (by omega);obtain⟨c,hc⟩ : ∃c,c=countR (r.take k):=⟨_,rfl⟩;rw[←hc]at HS hle ⊢;have w2:IntKind.i64.wrap ((c:Int)+1)=(c:Int)+1:=Go.IntWalk.i64_in _ (by omega);by_cases h5:0≤v
        · have i5:decide (0≤v)=true:=decide_eq_true h5
          have HS2:=Lib.hid (HS.out.trans (by rw[if_pos h5]));clear hv h5 hc;go_wp2_with fail;go_round
          case rel=>exact⟨k+1,by go_num,hlt,by rw[HS2.out];go_num⟩
          case measure=>simp[RowKit.intOf];omega
        · have i5:decide (0≤v)=false:=decide_eq_false h5
          have HS2:=Lib.hid (HS.out.trans (by rw[if_neg h5]));clear hv h5 hc;go_wp2_with fail;go_round
          case rel=>exact⟨k+1,by go_num,hlt,by rw[HS2.out];rfl⟩
          case measure=>simp[RowKit.intOf];omega
      · have iL:decide (k<r.length)=false:=decide_eq_false hlt
        have iL2:decide ((k:Int)<(r.length:Int))=false:=decide_eq_false (by omega);have HF:Hid (r.take k=r):=Lib.hid (List.take_of_length_le (by omega));clear hlt;go_wp2_with fail;go_ret;refine⟨?_,S1.out.bel⟩;rw[HC.out,HF.out];rfl
end Go.Proofs.YtgbmmcnadmfikaaGreatDoor
namespace Go.Proofs.YtgbmmcnadmfikaaGreatDoor
open Go.RowKit Go.Shelf
attribute [local go_sem ↓] Go.wp_at_zero Go.wp_at_succ
theorem gr_below {w W W':World}{row:Option Nat}(hb:Below w.heap.size w W)(hg:W.grownBy W' row)(hrow : ∀g,row=some g→w.heap.size≤g):Below w.heap.size w W' :=
 hb.grown hg hb.size hrow
theorem Sf.grown {X:Nat→Prop}{w W W':World}{B:List Bl}{G:List Thing}{row:Option Nat}(h:Sf X w B G W)(h0 : ∀P∈G,P X w)(hg:W.grownBy W' row)(hrow : ∀g,row=some g→w.heap.size≤g∧∀x∈B,x.1≠g):Sf X w B G W':=by
 (have hb:=gr_below h.bel hg fun g e=>(hrow g e).1);refine⟨hb,h.old,fun x hx=>⟨(hg.block x.1 (h.lt hx) fun e=>(hrow x.1 e.symm).2 x hx rfl).trans (h.blk x hx).1,(h.blk x hx).2⟩,h.nd,fun P hP=>⟨(h.gv P hP).1,(h.gv P hP).1.add (h0 P hP) hb fun g hg=> ?_⟩⟩;rcases hg with hg | hg
 · exact .inl hg
 · obtain⟨x,hx,rfl⟩:=List.mem_map.1 hg
   exact .inr (h.blk x hx).2
theorem Sf.apart {X:Nat→Prop}{w W:World}{B:List Bl}{G:List Thing}(h:Sf X w B G W){b:Nat}{e:TypeId}{s n:Nat}{v:Value}{xs:List Value}(ho:W.ownsRow b e s v n xs)(hne:(B.map (·.2.2)).contains e=false) : ∀g,v.ownBlock=some g→∀x∈B,x.1≠g:=by
 intro g hg x hx e1;obtain⟨cs,h1⟩:=own_type ho hg;rw[←e1,(h.blk x hx).1]at h1;injection h1 with h1;injection h1 with _ h1;have h2:(B.map (·.2.2)).contains e=true:=List.contains_iff_mem.2 (h1▸List.mem_map.2 ⟨x,hx,rfl⟩);rw[hne]at h2
 cases h2
theorem OwnT.nil (tD tS tI:TypeId){base:Nat}{ds:List DescL}{vd:Value}{W:World}(h:W.ownsRow base tD 6 vd ds.length (cellsD ds)):OwnT tD tS tI base ⟨ds,[]⟩ vd (.slice none 0 0) [] W :=
 ⟨rfl,h,World.ownsRow_nil _ _ _ _,(fun m hm=>by cases hm),fun i j a b ha _ _=>by cases ha⟩
theorem own_emptyT {W:World}{g s:Nat}{e:TypeId}(h:W.heap[g]? = some (.cells #[] e (0,0))):W.ownsRow g e s (.slice (some ⟨g,0,none⟩) 0 0) 0 []:=⟨by simp, .inr ⟨g,0,#[],rfl,Nat.le_refl _,h,Nat.le_refl _,Nat.zero_le _,by simp,by simp⟩⟩
theorem OwnT.push {tD tS tI:TypeId}{base:Nat}{ds:List DescL}{fs:List (List Int)}{vd vf:Value}{rows:List RowV}{W0 W1 W2:World}(h:OwnT tD tS tI base ⟨ds,fs⟩ vd vf rows W0)(hb:Below W0.heap.size W0 W1){r:List Int}{v vf':Value}
 (hv:W1.ownsRow base tI 1 v r.length (intC r)) (hn : ∀g,v.ownBlock=some g→W0.heap.size≤g) (hf:W2.ownsRow base tS 1 vf' (rows.length+1) (rows.map (·.2)++ [v])) (hg:W1.grownBy W2 vf.ownBlock) (hD:tS≠tD) (hI:tS≠tI):OwnT tD tS tI base ⟨ds,fs++ [r]⟩ vd vf' (rows++ [(r,v)]) W2:=by
  have h1:=h.below hb
  have keep : ∀ {e:TypeId} {s n:Nat} {u:Value} {xs:List Value},W1.ownsRow base e s u n xs→tS≠e→W2.ownsRow base e s u n xs:=fun h' he=>by
   refine⟨h'.1,h'.2.imp id ?_⟩;rintro⟨g',cap,cur,rfl,k1,k2,k3⟩;refine⟨g',cap,cur,rfl,k1,(hg.block g' (Array.getElem?_eq_some_iff.1 k2).1 fun e=> ?_).trans k2,k3⟩;exact own_ne h1.out h' he g' e.symm rfl
  refine⟨by rw[List.map_append,h.fs];rfl,keep h1.ds hD,by rw[List.length_append,List.map_append];exact hf,fun m hm=> ?_,?_⟩
  · rcases List.mem_append.1 hm with hm | hm
    · exact keep (h1.row m hm) hI
    · rw[List.mem_singleton]at hm;subst hm;exact keep hv hI
  · have hlt : ∀(i:Nat) (a:RowV),rows[i]? = some a→∀g,a.2.ownBlock=some g→g<W0.heap.size:=fun i a ha g hg=>by
     obtain⟨cs,hc⟩:=own_type (h.row a (List.mem_of_getElem? ha)) hg;exact(Array.getElem?_eq_some_iff.1 hc).1
    have at' : ∀(i:Nat) (a:RowV),(rows++ [(r,v)])[i]? = some a→(i<rows.length∧rows[i]? = some a)∨(i=rows.length∧a=(r,v)):=fun i a ha=>by
     rw[List.getElem?_append]at ha;split at ha
     · rename_i hi;exact .inl ⟨hi,ha⟩
     · rename_i hi
       have:i-rows.length=0:=by
        rcases Nat.eq_zero_or_pos (i-rows.length)with h0 | h0
        · exact h0
        · rw[List.getElem?_eq_none (by rw[List.length_singleton];omega)]at ha;cases ha
       rw[this]at ha;injection ha with ha;exact .inr ⟨by omega,ha.symm⟩
    intro i j a b ha hb' hne g hga hgb;rcases at' i a ha with⟨hi,ha⟩ | ⟨hi,rfl⟩
    · rcases at' j b hb' with⟨hj,hb'⟩ | ⟨hj,rfl⟩
      · exact h.apart i j a b ha hb' hne g hga hgb
      · have:=hlt i a ha g hga;have:=hn g hgb;omega
    · rcases at' j b hb' with⟨hj,hb'⟩ | ⟨hj,rfl⟩
      · have:=hlt j b hb' g hgb;have:=hn g hga;omega
      · omega
theorem infoDescR:(Tryz.prog.info? 88).map (fun i=>(i.zero,i.size,i.bytes))=some (some (.agg #[.int .i64 0, .int .i64 0, .bool false, .bool false, .int .i64 0, .int .i64 0]),6,40):=by kernel_rfl
theorem infoInt:(Tryz.prog.info? 3).map (fun i=>(i.zero,i.size,i.bytes))=some (some (.int .i64 0),1,8):=by kernel_rfl
theorem infoRow:(Tryz.prog.info? 61).map (fun i=>(i.zero,i.size,i.bytes))=some (some (.slice none 0 0),1,24):=by kernel_rfl
theorem info_parts {P:Program}{t:TypeId}{z:Value}{s b:Nat}(h:(P.info? t).map (fun i=>(i.zero,i.size,i.bytes))=some (some z,s,b)) : ∃i,P.info? t=some i∧i.zero=some z∧i.size=s∧i.bytes=b:=by
 obtain⟨i,h1,h2⟩:=Option.map_eq_some_iff.1 h;injection h2 with h2 h3;injection h3 with h3 h4;exact⟨i,h1,h2,h3,h4⟩
end Go.Proofs.YtgbmmcnadmfikaaGreatDoor
namespace Go.Proofs.YtgbmmcnadmfikaaGreatDoor
open Go.RowKit Go.Shelf
attribute [local go_sem ↓] Go.wp_at_zero Go.wp_at_succ
theorem cells6 {W:World}{b:Nat}{u0 u1 u2 u3 u4 u5:Value}{t:TypeId}{f:Nat × Nat}(h:W.heap[b]? = some (.cells #[u0,u1,u2,u3,u4,u5] t f)) :
 W.cell? ⟨b,0,none⟩=some u0∧W.cell? ⟨b,1,none⟩=some u1∧W.cell? ⟨b,2,none⟩=some u2∧W.cell? ⟨b,3,none⟩=some u3∧W.cell? ⟨b,4,none⟩=some u4∧W.cell? ⟨b,5,none⟩=some u5:=by
 refine⟨?_,?_,?_,?_,?_,?_⟩<;>(rw[Lib.cell_of_heap h];rfl)
theorem grown_setT (W:World)(g o:Nat)(vs:List Value):W.grownBy (W.setCells g o vs) (some g):=by
 have hb:=below_setCells g g (Nat.le_refl g) vs o W;exact⟨hb.os,hb.tape,hb.output,hb.size,fun k _ hk=>heap_setCells g k (fun e=>hk (by rw[e])) vs o W⟩
def TabIs (X:Nat→Prop)(t:TabL)(e:Ending)(w w':World):Prop:=∃vd vf,e = .returned (.agg #[vd,vf])∧TabX t vd vf X w'∧Below w.heap.size w w'
def TabIs2 (X:Nat→Prop)(t:TabL)(x:Value)(n:Int)(e:Ending)(w w':World):Prop:=∃vd vf,e = .returned (.tuple #[.agg #[vd,vf],x, .int .i64 n])∧TabX t vd vf X w'∧Below w.heap.size w w'
theorem OwnT.writeD {tD tS tI:TypeId}{base:Nat}{t:TabL}{vd vf:Value}{rows:List RowV}{W:World}(h:OwnT tD tS tI base t vd vf rows W){g cap:Nat}(e:vd = .slice (some ⟨g,0,none⟩) t.ds.length cap){i:Nat}(hi:i<t.ds.length)(d:DescL)(hS:tS≠tD)(hI:tI≠tD):OwnT tD tS tI base ⟨t.ds.set i d,t.fs⟩ vd vf rows (W.setCells g (i*6) (dcells d)) :=
 h.segD e (cells_set_all _ _ hi d) (by rw[List.length_set]) (by show i*6+6≤_;omega) hS hI rfl (fun k hk=>heap_setCells g k hk _ _ _)
theorem OwnT.writeF {tD tS tI:TypeId}{base:Nat}{t:TabL}{vd vf:Value}{rows:List RowV}{W:World}(h:OwnT tD tS tI base t vd vf rows W){p k g cr:Nat}(hp:p<t.fs.length)(hk:k<(t.fs[p]).length)(hr:rows[p]? = some (t.fs[p], .slice (some ⟨g,0,none⟩) (t.fs[p]).length cr))(v:Int)(hD:tD≠tI)(hS:tS≠tI) :
 OwnT tD tS tI base ⟨t.ds,putF t.fs p k v⟩ vd vf (rows.set p ((t.fs[p]).set k v, .slice (some ⟨g,0,none⟩) (t.fs[p]).length cr)) (W.setCell ⟨g,k,none⟩ (.int .i64 v)) :=
 h.segF hp hk hr v hD hS rfl (fun k' hk'=>heap_setCells g k' hk' [.int .i64 v] _ _)
theorem OwnT.before {tD tS tI:TypeId}{base:Nat}{t:TabL}{vd vf:Value}{rows:List RowV}{W W':World}(h:OwnT tD tS tI base t vd vf rows W){g:Nat}(hg:g<base)(ho : ∀k,k≠g→W'.heap[k]? = W.heap[k]?):OwnT tD tS tI base t vd vf rows W':=by
 (have ne : ∀ {e':TypeId} {s n:Nat} {v:Value} {xs:List Value},W.ownsRow base e' s v n xs→v.ownBlock≠some g:=fun h hv=>by have:=(h.lt g hv).1;omega);exact⟨h.fs,own_other h.ds (ne h.ds) ho,own_other h.out (ne h.out) ho,fun m hm=>own_other (h.row m hm) (ne (h.row m hm)) ho,h.apart⟩
theorem Sf.ids {X:Nat→Prop}{w W:World}{B:List Bl}{G:List Thing}(h:Sf X w B G W) : ∀g∈B.map (·.1),g<W.heap.size:=fun g hg=>by
 obtain⟨x,hx,rfl⟩:=List.mem_map.1 hg;exact h.lt hx
theorem wpList_store_seg {P:Program}{ops:Array Oper}{rest:List Oper}{op:Oper}{a:Act}{w:World}{Q:Exit→Act→World→Prop}(hgd:op.guard=none)(ty:TypeId)(x y:Operand)(ho:op.op = .store ty x y)
 (b o:Nat) {cells:List Value} (hx:a.eval x = .pointer (some ⟨b,o,none⟩)) (hy:a.eval y = .agg cells.toArray) (ht:w.there b o cells.length) (hi:(P.info? ty).map (·.size)=some cells.length) (h1:cells.all (·.oneCell')=true)
 (h:wpList P ops Q rest (a.put op.dst undef) (w.setCells b o cells)):wpList P ops Q (op::rest) a w :=
  wpList_store_mid hgd ty x y ho b o cells.toArray hx hy (by rw[List.size_toArray];exact ht) (by simpa using hi) (all_oneCell_toArray fun v hv=>List.all_eq_true.1 h1 v hv) h
end Go.Proofs.YtgbmmcnadmfikaaGreatDoor
namespace Go.Proofs.YtgbmmcnadmfikaaGreatDoor
open Go.RowKit Go.Shelf
attribute [local go_sem ↓] Go.wp_at_zero Go.wp_at_succ
theorem eqDescR (x y:DescL)(w:World):(Op.equalIn 10000 88 (dvalD x) (dvalD y)).run Tryz.prog w = .ok (decide (x=y)) w:=by
 have u3:=Tryz.underlying3;have u4:=Tryz.underlying4;have a3:=Tryz.isAgg3;have a4:=Tryz.isAgg4;(have hS:Tryz.prog.underlying 88=some (.struct (Tryz.prog.fieldsOf 88)):=by kernel_rfl);rw[show(10000:Nat)=9998+1+1 from rfl,run_equalIn_agg w (9998+1) 88 _ _ hS (by kernel_rfl)];simp only[Program.fieldsOf,Tryz.underlying88];go_simp;obtain⟨x1,x2,x3,x4,x5,x6⟩:=x;obtain⟨y1,y2,y3,y4,y5,y6⟩:=y;by_cases h1:x1=y1<;>by_cases h2:x2=y2<;>by_cases h3:x3=y3<;>by_cases h4:x4=y4<;>by_cases h5:x5=y5<;>by_cases h6:x6=y6<;>simp[h1,h2,h3,h4,h5,h6]
theorem eqDescRG:Tryz.prog.eqGuardType Tryz.prog.depth 88=false:=by kernel_rfl
end Go.Proofs.YtgbmmcnadmfikaaGreatDoor
