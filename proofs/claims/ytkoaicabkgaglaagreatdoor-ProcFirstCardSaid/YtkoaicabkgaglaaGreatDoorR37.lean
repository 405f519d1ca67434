import Derived.Test.YtkoaicabkgaglaaGreatDoorR36
import Derived.Lib.QuietBelow
import Derived.Test.YtkoaicabkgaglaaGreatDoorR26
import Derived.Laws.EntriesVeiled
namespace Go.Proofs.YtkoaicabkgaglaaGreatDoor
open Go.RowKit Go.Shelf
attribute [local go_sem ↓] Go.wp_at_zero Go.wp_at_succ
def PartIs (l:List NodeL)(k:Nat)(n:NodeL)(c:Nat)(e:Ending)(W W':World):Prop:=e = .returned (.bool (partC l k n c))∧Below W.heap.size W W'
set_option maxRecDepth 100000 in
theorem part0_any (l:List NodeL)(k:Nat)(n:NodeL)(ao:Option Addr)(cap:Nat)(w:World):Calls Tryz.prog 29 #[.int .i64 k,nval n (.slice ao n.names.length cap)] w fun e w'=>PartIs l k n 0 e w w':=by
 have HE:Hid (partC l k n 0=plainB n):=Lib.hid rfl;go_enter Tryz.func29,Tryz.ntmps29;go_wp2_with fail;refine(plain_any n _ _).mono ?_;rintro e w1 ⟨rfl,hb1⟩;go_wp2_with fail;go_ret;exact⟨ret_bool HE.out.symm,bel_al (Below.refl _ w) hb1⟩
set_option maxRecDepth 100000 in
theorem part1_any (l:List NodeL)(k:Nat)(n:NodeL)(ao:Option Addr)(cap:Nat)(w:World):Calls Tryz.prog 31 #[.int .i64 k,nval n (.slice ao n.names.length cap)] w fun e w'=>PartIs l k n 1 e w w':=by
 have HE:Hid (partC l k n 1=((n.kind != 2) || List.isEmpty n.data)):=Lib.hid (by
  show(!decide (n.kind=2) || decide (n.data = []))=_;(have h1:List.isEmpty n.data=decide (n.data = []):=by cases n.data<;>rfl);rw[h1]
  rfl)
 have hb:Below w.heap.size w (w.alloc (.cells #[.int .i64 n.kind, .int .i64 n.mode, .int .i64 n.owner, .int .i64 n.links, .int .i64 n.opn, .int .i64 n.up, .string (bs n.data), .slice ao n.names.length cap] 64)):=(Below.refl _ w).alloc (Nat.le_refl _) _
 cases h:n.kind != 2 with
 | true =>
    rw[h]at HE;go_enter Tryz.func31,Tryz.ntmps31;go_wp2_with fail;go_ret;exact⟨ret_bool (by rw[HE.out];rfl),hb⟩
 | false =>
    rw[h]at HE;go_enter Tryz.func31,Tryz.ntmps31;go_wp2_with fail;go_ret;exact⟨ret_bool (by rw[HE.out];rfl),hb⟩
set_option maxRecDepth 100000 in
theorem part2_any (l:List NodeL)(k:Nat)(n:NodeL)(ao:Option Addr)(cap:Nat)(w:World):Calls Tryz.prog 32 #[.int .i64 k,nval n (.slice ao n.names.length cap)] w fun e w'=>PartIs l k n 2 e w w':=by
 have HE:Hid (partC l k n 2=((n.kind == 2) || ((n.names.length:Int) == 0))):=Lib.hid (by
  have hlen:((n.names.length:Int) == 0)=decide (n.names.length=0):=by
   rw[Bool.eq_iff_iff,beq_iff_eq,decide_eq_true_iff];omega
  rw[hlen]
  rfl)
 have hb:Below w.heap.size w (w.alloc (.cells #[.int .i64 n.kind, .int .i64 n.mode, .int .i64 n.owner, .int .i64 n.links, .int .i64 n.opn, .int .i64 n.up, .string (bs n.data), .slice ao n.names.length cap] 64)):=(Below.refl _ w).alloc (Nat.le_refl _) _
 cases h:n.kind == 2 with
 | true =>
    rw[h]at HE;go_enter Tryz.func32,Tryz.ntmps32;go_wp2_with fail;go_ret;exact⟨ret_bool (by rw[HE.out];rfl),hb⟩
 | false =>
    rw[h]at HE;go_enter Tryz.func32,Tryz.ntmps32;go_wp2_with fail;go_ret;exact⟨ret_bool (by rw[HE.out];rfl),hb⟩
set_option maxRecDepth 100000 in
theorem part5_any (l:List NodeL)(k:Nat)(n:NodeL)(ao:Option Addr)(cap:Nat)(w:World):Calls Tryz.prog 38 #[.int .i64 k,nval n (.slice ao n.names.length cap)] w fun e w'=>PartIs l k n 5 e w w':=by
 have HE:Hid (partC l k n 5=(decide (0<n.links) || decide (0<n.opn))):=Lib.hid rfl;have hb:Below w.heap.size w (w.alloc (.cells #[.int .i64 n.kind, .int .i64 n.mode, .int .i64 n.owner, .int .i64 n.links, .int .i64 n.opn, .int .i64 n.up, .string (bs n.data), .slice ao n.names.length cap] 64)):=(Below.refl _ w).alloc (Nat.le_refl _) _
 cases h:decide (0<n.links)with
 | true =>
    rw[h]at HE;go_enter Tryz.func38,Tryz.ntmps38;go_wp2_with fail;go_ret;exact⟨ret_bool (by rw[HE.out];rfl),hb⟩
 | false =>
    rw[h]at HE;go_enter Tryz.func38,Tryz.ntmps38;go_wp2_with fail;go_ret;exact⟨ret_bool (by rw[HE.out];rfl),hb⟩
set_option maxRecDepth 100000 in
set_option maxHeartbeats 1000000 in
theorem part3_any (v:Value)(ms:List NodeM)(most room:Int)(b0 k:Nat)(n:NodeL)(ao:Option Addr)(cap:Nat)(w:World)(hv:RdM w.heap.size v ms w)(hl:ms.length≤10000)(hd:w.heap[b0]? = some (.cells #[v, .int .i64 most, .int .i64 room] 24 (0,0)))(hn:RdNm w.heap.size (n, .slice ao n.names.length cap) w)(hnl:n.names.length≤10000)(hf:Fit n.names) :
 Calls Tryz.prog 33 #[.int .i64 k,nval n (.slice ao n.names.length cap), .pointer (some ⟨b0,0,none⟩)] w fun e w'=>PartIs (pl ms) k n 3 e w w':=by
 obtain⟨aod,capd,rfl,_,_⟩:=rdm_form hv;have HE:Hid (partC (pl ms) k n 3=(decide (SortedP n.names) && namableB (pl ms) n.names)):=Lib.hid rfl;have HV:=Lib.hid hv;have HN:Hid (Rd w.heap.size 2 (.slice ao n.names.length cap) n.names.length (ents n.names) w):=Lib.hid hn;have hlt:b0<w.heap.size:=(Array.getElem?_eq_some_iff.1 hd).1;clear hv hn;go_enter Tryz.func33,Tryz.ntmps33;go_wp2_with fail;refine fresh1 (P:=fun W=>Calls _ _ _ W _) ?_;intro W0 hb0 hQ hs0;refine(sorted_any w.heap.size _ n.names W0 (HN.out.below hb0) (by omega) hnl hf).mono ?_;rintro e W1 ⟨rfl,hb1⟩;have hB1:=ret_tr hb0 hb1;have hd1:=(hB1.block _ hlt).trans hd;have hQ1:=(hb1.block _ (by omega)).trans hQ;obtain⟨p0,p1,p2⟩:=cells3 hd1;have q7:=(cells8 hQ1).2.2.2.2.2.2.2
 cases hso:decide (SortedP n.names)with
 | false =>
    rw[hso]at HE;go_wp2_with fail;go_ret;exact⟨ret_bool (by rw[HE.out];rfl),hB1⟩
 | true =>
    rw[hso]at HE;go_wp2_with fail;refine(namable_any (.slice aod ms.length capd) (.slice ao n.names.length cap) ms n.names most room W1 (rdm_keep HV.out hB1) hl (rd_keep HN.out hB1) hnl).mono ?_;rintro e W2 ⟨rfl,hb2⟩;go_wp2_with fail;go_ret;exact⟨ret_bool (by rw[HE.out];rfl),ret_tr hB1 hb2⟩
set_option maxRecDepth 100000 in
set_option maxHeartbeats 1000000 in
theorem part4_any (l:List NodeL)(g capg c0 k:Nat)(hk:k<l.length)(n:NodeL)(ao:Option Addr)(cap:Nat)(w:World)(hc:w.cell? ⟨c0,0,none⟩=some (.slice (some ⟨g,0,none⟩) l.length capg))(hr:RowN g l.length (fun i=>nmL l i (0,0)) w)(hx:(nmL l k (0,0)).1≤100000) :
 Calls Tryz.prog 36 #[.int .i64 k,nval n (.slice ao n.names.length cap), .pointer (some ⟨c0,0,none⟩)] w fun e w'=>PartIs l k n 4 e w w':=by
 have HE:Hid (partC l k n 4=(n.links == linksC k (nmL l k (0,0)))):=Lib.hid rfl;obtain⟨r0,r1, -⟩:=hr.cells k hk;have hlt:g<w.heap.size:=hr.lt;have hltc:c0<w.heap.size:=block_lt_of_cell hc;(have k0:(0:Int)≤(k:Int):=by omega);(have k1:(k:Int)<(l.length:Int):=by omega);(have HL:=fun W=>links_any (nmL l k (0,0)) k W hx);generalize nmL l k (0,0)=s at *;clear hr hx;go_enter Tryz.func36,Tryz.ntmps36;go_wp2_with fail;refine fresh1 (P:=fun W=>Code.wp _ _ _ _ W) ?_;intro W0 hb0 hQ hs0;have cc:=cell_regrown ((hb0.cell (p:=⟨c0,0,none⟩) hltc).trans hc);have rr0:=cell_regrown ((hb0.cell (p:=⟨g,k*2,none⟩) hlt).trans r0);have rr1:=cell_regrown ((hb0.cell (p:=⟨g,k*2+1,none⟩) hlt).trans r1);have qq:=cell_regrown (cells8 hQ).2.2.2.1;refine wp_region_quiet_below (by kernel_rfl) (by kernel_rfl) ?_
 repeat (go_big_quiet_step ((go_at_call 37;exact Calls.regrown_of (HL _))))
 refine wpQuiet_nil ?_;clear cc rr0 rr1 qq;intro _ hw';obtain⟨⟨dq,osq⟩,hw''⟩:=hw';have hbg:Below W0.heap.size W0 _:=below_regrown W0 dq osq;rw[←hw'']at hbg;clear hw'';rename_i W2;have hB2:=ret_tr hb0 hbg;go_wp2_with fail;go_ret;exact⟨ret_bool HE.out.symm,hB2⟩
set_option maxRecDepth 100000 in
set_option maxHeartbeats 1000000 in
theorem part6_any (v:Value)(ms:List NodeM)(most room:Int)(b0 g capg c0 k:Nat)(hk:k<ms.length)(n:NodeL)(hn:atI (pl ms) k=n)(ao:Option Addr)(cap:Nat)(w:World)(hv:RdM w.heap.size v ms w)(hl:ms.length≤10000)(hd:w.heap[b0]? = some (.cells #[v, .int .i64 most, .int .i64 room] 24 (0,0)))
 (hc:w.cell? ⟨c0,0,none⟩=some (.slice (some ⟨g,0,none⟩) ms.length capg)) (hr:RowN g ms.length (fun i=>nmL (pl ms) i (0,0)) w) :
 Calls Tryz.prog 39 #[.int .i64 k,nval n (.slice ao n.names.length cap), .pointer (some ⟨b0,0,none⟩), .pointer (some ⟨c0,0,none⟩)] w fun e w'=>PartIs (pl ms) k n 6 e w w':=by
 obtain⟨aod,capd,rfl,_,_⟩:=rdm_form hv
 have HE:Hid (partC (pl ms) k n 6=((n.kind != 2) || (((k:Int) == 0) || placedC (pl ms) k n (nmL (pl ms) k (0,0))))):=Lib.hid (by
  show(!decide (n.kind=2) || decide ((k:Int)=0) || placedC (pl ms) k n (nmL (pl ms) k (0,0)))=_;rw[Bool.or_assoc]
  rfl)
 obtain⟨r0,r1, -⟩:=hr.cells k hk;have hlt:g<w.heap.size:=hr.lt;have hltc:c0<w.heap.size:=block_lt_of_cell hc;have hltd:b0<w.heap.size:=(Array.getElem?_eq_some_iff.1 hd).1;(have k0:(0:Int)≤(k:Int):=by omega);(have k1:(k:Int)<(ms.length:Int):=by omega);have HV:=Lib.hid hv
 have HPl:Hid (∀W,Below w.heap.size w W→Calls Tryz.prog 40 #[.agg #[.slice aod ms.length capd, .int .i64 most, .int .i64 room], .agg #[.int .i64 (nmL (pl ms) k (0,0)).1, .int .i64 (nmL (pl ms) k (0,0)).2], .int .i64 k] W fun e w'=>e = .returned (.bool (placedC (pl ms) k n (nmL (pl ms) k (0,0))))∧Below W.heap.size W w') :=
  Lib.hid fun W hb=>by rw[←hn];exact placed_any _ ms most room k _ _ W hk (rdm_keep HV.out hb) hl
 generalize hs:nmL (pl ms) k (0,0)=s at *;clear hr hv hn;go_enter Tryz.func39,Tryz.ntmps39;go_wp2_with fail;refine fresh1 (P:=fun W=>Code.wp _ _ _ _ W) ?_;intro W0 hb0 hQ hs0;(have HL : ∀W,Below W0.heap.size W0 W→_:=fun W hb=>HPl.out W (ret_tr hb0 hb));have dd:=cells3 ((hb0.block _ hltd).trans hd);have cc:=cell_regrown ((hb0.cell (p:=⟨c0,0,none⟩) hltc).trans hc);have rr0:=cell_regrown ((hb0.cell (p:=⟨g,k*2,none⟩) hlt).trans r0);have rr1:=cell_regrown ((hb0.cell (p:=⟨g,k*2+1,none⟩) hlt).trans r1);have qq:=cell_regrown (cells8 hQ).1;have dd0:=cell_regrown dd.1;have dd1:=cell_regrown dd.2.1;have dd2:=cell_regrown dd.2.2;clear dd
 cases h1:n.kind != 2 with
 | true =>
    rw[h1]at HE;refine wp_region_quiet_below (by kernel_rfl) (by kernel_rfl) ?_
    repeat (go_big_quiet_step (fail))
    refine wpQuiet_nil ?_;clear cc rr0 rr1 qq dd0 dd1 dd2;intro _ hw';obtain⟨⟨dq,osq⟩,hw''⟩:=hw';have hbg:Below W0.heap.size W0 _:=below_regrown W0 dq osq;rw[←hw'']at hbg;clear hw'';rename_i W2;have hB2:=ret_tr hb0 hbg;go_wp2_with fail;go_ret;exact⟨ret_bool (by rw[HE.out];rfl),hB2⟩
 | false =>
    rw[h1]at HE;by_cases kz:k=0
    · have kI:((k:Int) == 0)=true:=by rw[beq_iff_eq];omega
      rw[kI]at HE;refine wp_region_quiet_below (by kernel_rfl) (by kernel_rfl) ?_
      repeat (go_big_quiet_step (fail))
      refine wpQuiet_nil ?_;clear cc rr0 rr1 qq dd0 dd1 dd2;intro _ hw';obtain⟨⟨dq,osq⟩,hw''⟩:=hw';have hbg:Below W0.heap.size W0 _:=below_regrown W0 dq osq;rw[←hw'']at hbg;clear hw'';rename_i W2;have hB2:=ret_tr hb0 hbg;go_wp2_with fail;go_ret;exact⟨ret_bool (by rw[HE.out];rfl),hB2⟩
    · have kI:((k:Int) == 0)=false:=by rw[beq_eq_false_iff_ne];omega
      rw[kI]at HE;refine wp_region_quiet_below (by kernel_rfl) (by kernel_rfl) ?_
      repeat (go_big_quiet_step ((go_at_call 40;exact Calls.regrown_of (HL _ (below_regrown W0 _ _)))))
      refine wpQuiet_nil ?_;clear cc rr0 rr1 qq dd0 dd1 dd2;intro _ hw';obtain⟨⟨dq,osq⟩,hw''⟩:=hw';have hbg:Below W0.heap.size W0 _:=below_regrown W0 dq osq;rw[←hw'']at hbg;clear hw'';rename_i W2;have hB2:=ret_tr hb0 hbg;go_wp2_with fail;go_ret;exact⟨ret_bool (by rw[HE.out];rfl),hB2⟩
end Go.Proofs.YtkoaicabkgaglaaGreatDoor
namespace Go.Proofs.YtkoaicabkgaglaaGreatDoor
open Go.RowKit Go.Shelf
attribute [local go_sem ↓] Go.wp_at_zero Go.wp_at_succ
def headC (l:List NodeL)(most room:Int):Bool:=rootedB l && !decide (most<l.length) && !decide (room<bytesL l)
theorem rightC_eq (l:List NodeL)(most room:Int):rightC l most room=(headC l most room && (List.range l.length).all fun i=>okC l i (atI l i)):=rfl
theorem cells7 {W:World}{b:Nat}{u0 u1 u2 u3 u4 u5 u6:Value}{t:TypeId}{f:Nat × Nat}(h:W.heap[b]? = some (.cells #[u0,u1,u2,u3,u4,u5,u6] t f)) :
 W.cell? ⟨b,0,none⟩=some u0∧W.cell? ⟨b,1,none⟩=some u1∧W.cell? ⟨b,2,none⟩=some u2∧W.cell? ⟨b,3,none⟩=some u3∧W.cell? ⟨b,4,none⟩=some u4∧W.cell? ⟨b,5,none⟩=some u5∧W.cell? ⟨b,6,none⟩=some u6:=by
 refine⟨?_,?_,?_,?_,?_,?_,?_⟩<;>(rw[Lib.cell_of_heap h];rfl)
theorem idx7_0 (u0 u1 u2 u3 u4 u5 u6:Value)(w:World):(Instr.index 93 (.agg #[u0,u1,u2,u3,u4,u5,u6]) (.int .i64 0)).run Tryz.prog w = .ok u0 w:=by kernel_rfl
theorem idx7_1 (u0 u1 u2 u3 u4 u5 u6:Value)(w:World):(Instr.index 93 (.agg #[u0,u1,u2,u3,u4,u5,u6]) (.int .i64 1)).run Tryz.prog w = .ok u1 w:=by kernel_rfl
theorem idx7_2 (u0 u1 u2 u3 u4 u5 u6:Value)(w:World):(Instr.index 93 (.agg #[u0,u1,u2,u3,u4,u5,u6]) (.int .i64 2)).run Tryz.prog w = .ok u2 w:=by kernel_rfl
theorem idx7_3 (u0 u1 u2 u3 u4 u5 u6:Value)(w:World):(Instr.index 93 (.agg #[u0,u1,u2,u3,u4,u5,u6]) (.int .i64 3)).run Tryz.prog w = .ok u3 w:=by kernel_rfl
theorem idx7_4 (u0 u1 u2 u3 u4 u5 u6:Value)(w:World):(Instr.index 93 (.agg #[u0,u1,u2,u3,u4,u5,u6]) (.int .i64 4)).run Tryz.prog w = .ok u4 w:=by kernel_rfl
theorem idx7_5 (u0 u1 u2 u3 u4 u5 u6:Value)(w:World):(Instr.index 93 (.agg #[u0,u1,u2,u3,u4,u5,u6]) (.int .i64 5)).run Tryz.prog w = .ok u5 w:=by kernel_rfl
theorem idx7_6 (u0 u1 u2 u3 u4 u5 u6:Value)(w:World):(Instr.index 93 (.agg #[u0,u1,u2,u3,u4,u5,u6]) (.int .i64 6)).run Tryz.prog w = .ok u6 w:=by kernel_rfl
def PartsTo (l:List NodeL)(k:Nat)(n:NodeL)(c:Nat):Prop:=∀i,i<c→partC l k n i=true
theorem parts_succ {l:List NodeL}{k:Nat}{n:NodeL}{c:Nat}(h:PartsTo l k n c)(hp:partC l k n c=true):PartsTo l k n (c+1):=fun i hi=>by
 rcases Nat.lt_or_ge i c with h1 | h1
 · exact h i h1
 · obtain rfl:i=c:=by omega
   exact hp
theorem okC_bad {l:List NodeL}{k:Nat}{n:NodeL}{c:Nat}(h0:n.kind≠0)(hc:c<7)(hp:partC l k n c=false):okC l k n=false:=by
 unfold okC;rw[if_neg h0];exact okTo_bad (p:=partC l k n) hc hp
theorem okC_good {l:List NodeL}{k:Nat}{n:NodeL}(h0:n.kind≠0)(h:PartsTo l k n 7):okC l k n=true:=by
 unfold okC;rw[if_neg h0];exact okTo_all (p:=partC l k n) h
theorem okC_free {l:List NodeL}{k:Nat}{n:NodeL}(h0:n.kind=0):okC l k n=decide (n=zeroN):=by
 unfold okC;rw[if_pos h0]
set_option maxRecDepth 100000 in
set_option maxHeartbeats 8000000 in
theorem cright_any (v:Value)(ms:List NodeM)(most room:Int)(w:World)(hv:RdM w.heap.size v ms w)(hsm:Small (pl ms))(hfit:FitD (pl ms)) :
 Calls Tryz.prog 11 #[.agg #[v, .int .i64 most, .int .i64 room]] w fun e w'=>e = .returned (.bool (rightC (pl ms) most room))∧Below w.heap.size w w':=by
 (have hl:ms.length≤110:=by have:=hsm.1;rwa [pl_len]at this);have hbl:bytesL (pl ms)≤220000:=by have:=bytes_take_le hsm (pl ms).length;rwa [List.take_length]at this
 have HNL:Hid (∀k:Nat,(nmL (pl ms) k (0,0)).1≤100000):=Lib.hid fun k=>by
  have:=nm_le hsm k (0,0) (pl ms).length;have h3:((0,0):Nat × Int).1=0:=rfl;rw[pl_len]at this;unfold nmL;rw[pl_len];omega
 obtain⟨ao,cap,rfl,_,_⟩:=rdm_form hv;have HV:=Lib.hid hv;have HS:=Lib.hid hsm;have HF:=Lib.hid hfit;clear hv hsm hfit
 cases hro:rootedB (pl ms)with
 | false =>
    have HX:Hid (rightC (pl ms) most room=false):=Lib.hid (by rw[rightC_eq];unfold headC;rw[hro];rfl);go_enter Tryz.func11,Tryz.ntmps11;go_wp2_with fail;refine fresh1 (P:=fun W=>Code.wp _ _ _ _ W) ?_;intro W0 hb0 hP hs0;obtain⟨p0,p1,p2⟩:=cells3 hP;have pp0:=cell_regrown p0;have pp1:=cell_regrown p1;have pp2:=cell_regrown p2
    have HRo : ∀W,Below W0.heap.size W0 W→Calls Tryz.prog 26 #[.agg #[.slice ao ms.length cap, .int .i64 most, .int .i64 room]] W fun e w'=>e = .returned (.bool (rootedB (pl ms)))∧Below W.heap.size W w' :=
     fun W hb=>crooted_any _ ms most room W (rdm_keep HV.out (ret_tr hb0 hb)) (by omega)
    have HBy : ∀W,Below W0.heap.size W0 W→Calls Tryz.prog 27 #[.agg #[.slice ao ms.length cap, .int .i64 most, .int .i64 room]] W fun e w'=>e = .returned (.int .i64 (bytesL (pl ms)))∧Below W.heap.size W w' :=
     fun W hb=>bytes_any _ ms most room W (rdm_keep HV.out (ret_tr hb0 hb)) HS.out
    rw[hro]at HRo;generalize hby:bytesL (pl ms)=y at *;clear hro;refine wp_region_quiet_below (by kernel_rfl) (by kernel_rfl) ?_
    repeat (go_big_quiet_step (first | (go_at_call 26;exact Calls.regrown_of (HRo _ (below_regrown W0 _ _))) | (go_at_call 27;exact Calls.regrown_of (HBy _ (below_regrown W0 _ _)))))
    refine wpQuiet_nil ?_;clear pp0 pp1 pp2 HRo HBy;intro _ hw';obtain⟨⟨dq,osq⟩,hw''⟩:=hw';have hbg:Below W0.heap.size W0 _:=below_regrown W0 dq osq;rw[←hw'']at hbg;clear hw'';rename_i Wb;have hBb:=ret_tr hb0 hbg;go_wp2_with fail;go_ret;exact⟨ret_bool HX.out.symm,hBb⟩
 | true =>
 by_cases h1:most<(ms.length:Int)
 · have hI:decide (most<(ms.length:Int))=true:=by simpa using h1
   have HX:Hid (rightC (pl ms) most room=false):=Lib.hid (by rw[rightC_eq];unfold headC;rw[pl_len,hI];simp);clear h1;go_enter Tryz.func11,Tryz.ntmps11;go_wp2_with fail;refine fresh1 (P:=fun W=>Code.wp _ _ _ _ W) ?_;intro W0 hb0 hP hs0;obtain⟨p0,p1,p2⟩:=cells3 hP;have pp0:=cell_regrown p0;have pp1:=cell_regrown p1;have pp2:=cell_regrown p2
   have HRo : ∀W,Below W0.heap.size W0 W→Calls Tryz.prog 26 #[.agg #[.slice ao ms.length cap, .int .i64 most, .int .i64 room]] W fun e w'=>e = .returned (.bool (rootedB (pl ms)))∧Below W.heap.size W w' :=
    fun W hb=>crooted_any _ ms most room W (rdm_keep HV.out (ret_tr hb0 hb)) (by omega)
   have HBy : ∀W,Below W0.heap.size W0 W→Calls Tryz.prog 27 #[.agg #[.slice ao ms.length cap, .int .i64 most, .int .i64 room]] W fun e w'=>e = .returned (.int .i64 (bytesL (pl ms)))∧Below W.heap.size W w' :=
    fun W hb=>bytes_any _ ms most room W (rdm_keep HV.out (ret_tr hb0 hb)) HS.out
   rw[hro]at HRo;generalize hby:bytesL (pl ms)=y at *;clear hro;refine wp_region_quiet_below (by kernel_rfl) (by kernel_rfl) ?_
   repeat (go_big_quiet_step (first | (go_at_call 26;exact Calls.regrown_of (HRo _ (below_regrown W0 _ _))) | (go_at_call 27;exact Calls.regrown_of (HBy _ (below_regrown W0 _ _)))))
   refine wpQuiet_nil ?_;clear pp0 pp1 pp2 HRo HBy;intro _ hw';obtain⟨⟨dq,osq⟩,hw''⟩:=hw';have hbg:Below W0.heap.size W0 _:=below_regrown W0 dq osq;rw[←hw'']at hbg;clear hw'';rename_i Wb;have hBb:=ret_tr hb0 hbg;go_wp2_with fail;go_ret;exact⟨ret_bool HX.out.symm,hBb⟩
 (have hI:decide (most<(ms.length:Int))=false:=by simpa using h1);clear h1;by_cases h2:room<(bytesL (pl ms):Int)
 · have hI2:decide (room<(bytesL (pl ms):Int))=true:=by simpa using h2
   have HX:Hid (rightC (pl ms) most room=false):=Lib.hid (by rw[rightC_eq];unfold headC;rw[hI2];simp);clear h2;go_enter Tryz.func11,Tryz.ntmps11;go_wp2_with fail;refine fresh1 (P:=fun W=>Code.wp _ _ _ _ W) ?_;intro W0 hb0 hP hs0;obtain⟨p0,p1,p2⟩:=cells3 hP;have pp0:=cell_regrown p0;have pp1:=cell_regrown p1;have pp2:=cell_regrown p2
   have HRo : ∀W,Below W0.heap.size W0 W→Calls Tryz.prog 26 #[.agg #[.slice ao ms.length cap, .int .i64 most, .int .i64 room]] W fun e w'=>e = .returned (.bool (rootedB (pl ms)))∧Below W.heap.size W w' :=
    fun W hb=>crooted_any _ ms most room W (rdm_keep HV.out (ret_tr hb0 hb)) (by omega)
   have HBy : ∀W,Below W0.heap.size W0 W→Calls Tryz.prog 27 #[.agg #[.slice ao ms.length cap, .int .i64 most, .int .i64 room]] W fun e w'=>e = .returned (.int .i64 (bytesL (pl ms)))∧Below W.heap.size W w' :=
    fun W hb=>bytes_any _ ms most room W (rdm_keep HV.out (ret_tr hb0 hb)) HS.out
   rw[hro]at HRo;generalize hby:bytesL (pl ms)=y at *;clear hro;refine wp_region_quiet_below (by kernel_rfl) (by kernel_rfl) ?_
   repeat (go_big_quiet_step (first | (go_at_call 26;exact Calls.regrown_of (HRo _ (below_regrown W0 _ _))) | (go_at_call 27;exact Calls.regrown_of (HBy _ (below_regrown W0 _ _)))))
   refine wpQuiet_nil ?_;clear pp0 pp1 pp2 HRo HBy;intro _ hw';obtain⟨⟨dq,osq⟩,hw''⟩:=hw';have hbg:Below W0.heap.size W0 _:=below_regrown W0 dq osq;rw[←hw'']at hbg;clear hw'';rename_i Wb;have hBb:=ret_tr hb0 hbg;go_wp2_with fail;go_ret;exact⟨ret_bool HX.out.symm,hBb⟩
 · have hI2:decide (room<(bytesL (pl ms):Int))=false:=by simpa using h2
   have HE:Hid (rightC (pl ms) most room=(List.range (pl ms).length).all fun i=>okC (pl ms) i (atI (pl ms) i)):=Lib.hid (by rw[rightC_eq];unfold headC;rw[hro,pl_len,hI,hI2];rfl);clear h2;go_enter Tryz.func11,Tryz.ntmps11;go_wp2_with fail;refine fresh1 (P:=fun W=>Code.wp _ _ _ _ W) ?_;intro W0 hb0 hP hs0;obtain⟨p0,p1,p2⟩:=cells3 hP;have pp0:=cell_regrown p0;have pp1:=cell_regrown p1;have pp2:=cell_regrown p2
   have HRo : ∀W,Below W0.heap.size W0 W→Calls Tryz.prog 26 #[.agg #[.slice ao ms.length cap, .int .i64 most, .int .i64 room]] W fun e w'=>e = .returned (.bool (rootedB (pl ms)))∧Below W.heap.size W w' :=
    fun W hb=>crooted_any _ ms most room W (rdm_keep HV.out (ret_tr hb0 hb)) (by omega)
   have HBy : ∀W,Below W0.heap.size W0 W→Calls Tryz.prog 27 #[.agg #[.slice ao ms.length cap, .int .i64 most, .int .i64 room]] W fun e w'=>e = .returned (.int .i64 (bytesL (pl ms)))∧Below W.heap.size W w' :=
    fun W hb=>bytes_any _ ms most room W (rdm_keep HV.out (ret_tr hb0 hb)) HS.out
   rw[hro]at HRo;generalize hby:bytesL (pl ms)=y at *;clear hro;refine wp_region_quiet_below (by kernel_rfl) (by kernel_rfl) ?_
   repeat (go_big_quiet_step (first | (go_at_call 26;exact Calls.regrown_of (HRo _ (below_regrown W0 _ _))) | (go_at_call 27;exact Calls.regrown_of (HBy _ (below_regrown W0 _ _)))))
   refine wpQuiet_nil ?_;clear pp0 pp1 pp2 HRo HBy;intro _ hw';obtain⟨⟨dq,osq⟩,hw''⟩:=hw';have hbg:Below W0.heap.size W0 _:=below_regrown W0 dq osq;rw[←hw'']at hbg;clear hw'';rename_i Wb;have hBb:=ret_tr hb0 hbg;have hPb:=(hbg.block _ (by omega)).trans hP;have hsb:=hbg.size;clear hbg hP p0 p1 p2;obtain⟨p0,p1,p2⟩:=cells3 hPb;go_wp2_with fail;refine(namings_any (.slice ao ms.length cap) ms most room Wb (rdm_keep HV.out hBb) HS.out).mono ?_;intro e W1 hnm;obtain⟨g,capg,rfl,hrow,hb1⟩:=hnm;have hB1:=ret_tr hBb hb1;have hP1:=(hb1.block _ (by omega)).trans hPb;have hs1:=hb1.size;rw[pl_len]at hrow;rw[pl_len];clear p0 p1 p2 hI hI2;have d1:=(cells3 hP1).1;(have sW1:w.heap.size<W1.heap.size:=by omega);go_wp2_with fail;clear d1;refine fresh2 (P:=fun W=>Code.wp _ _ _ _ W) ?_;intro W2 hb2 hC hFn hs2;have hP2:=Lib.hid ((hb2.block _ (by omega)).trans hP1);have hRow2:=Lib.hid (hrow.keep hb2);have hgl:g<W2.heap.size:=hRow2.out.lt;have hB2:=ret_tr hB1 hb2;have hFF:=Lib.hid hFn;have hCC:=Lib.hid hC;clear hrow hb2 hFn hC hP1 hPb;go_loopw [36] (fun i' wr=>∃k:Nat,i' = .int .i64 k∧k≤ms.length∧Hid (OkTo (fun i=>okC (pl ms) i (atI (pl ms) i)) k)∧Below W2.heap.size W2 wr) (fun i' _=>ms.length-(intOf i').toNat)
   case atStart=>exact⟨0,rfl,Nat.zero_le _,Lib.hid (fun i hi=>absurd hi (Nat.not_lt_zero _)),Below.refl _ _⟩
   case round =>
    obtain⟨k,rfl,hk,hO,hBr⟩:=hrel;have hBw:=ret_tr hB2 hBr;have sB:=hBr.size;by_cases hlt:k<ms.length
    · obtain⟨b,off,n,aon,capn,rfl,hb,hn,hmk, -,c0,c1,c2,c3,c4,c5,c6,c7⟩:=node_at (HV.out.below hBw) k hlt
      have HN:Hid (RdNm w.heap.size (n, .slice aon n.names.length capn) w):=Lib.hid (by
       have h1:ms[k]∈ms:=List.getElem_mem hlt;have h2:=HV.out.2 _ h1;rw[hmk]at h2
       exact h2)
      have HAT:Hid (atI (pl ms) k=n):=Lib.hid (by rw[←hn];exact at_nat (pl ms) k (by rw[pl_len];exact hlt));(have hmem:n∈pl ms:=by rw[←hn];exact List.getElem_mem _);have hnl:n.names.length≤130:=(HS.out.2 n hmem).2;have HFt:=Lib.hid (HF.out n hmem);clear hn hmk hmem;go_wp2_with fail;refine fresh1 (P:=fun W=>Calls _ _ _ W _) ?_;intro W3 hb3 hQ3 hs3;have hB3:Below W2.heap.size W2 W3:=hBr.trans (hb3.mono sB);refine(free_any n _ W3).mono ?_;rintro e W4 ⟨rfl,hb4⟩;have hB4:=ret_tr hB3 hb4;have hQ4:=(hb4.block _ (by omega)).trans hQ3;have hs4:=hb4.size;obtain⟨q0,q1,q2,q3,q4,q5,q6,q7⟩:=cells8 hQ4;clear c0 c1 c2 c3 c4 c5 c6 c7 hQ3;by_cases h0:n.kind=0
      · have hd:decide (n.kind=0)=true:=by simpa using h0
        have HOK:=Lib.hid (okC_free (l:=pl ms) (k:=k) h0);rw[hd];clear h0 hd;go_wp2_with fail;refine(zero_any n aon capn W4).mono ?_;rintro e W5 ⟨rfl,hb5⟩;have hB5:=ret_tr hB4 hb5
        cases hz:decide (n=zeroN)with
        | false =>
           have HX:Hid (rightC (pl ms) most room=false):=Lib.hid (by rw[HE.out];exact okTo_bad (by rw[pl_len];exact hlt) (by rw[HAT.out,HOK.out,hz]));clear hz;go_wp2_with fail;go_ret;exact⟨ret_bool HX.out.symm,ret_tr hB2 hB5⟩
        | true =>
           have HX:=Lib.hid (okTo_succ hO.out (show okC (pl ms) k (atI (pl ms) k)=true by rw[HAT.out,HOK.out,hz]));clear hz;go_wp2_with fail;go_roundw
           case rel=>exact⟨k+1,by go_num,hlt,HX,hB5⟩
           case measure=>simp[intOf];omega
      · have hd:decide (n.kind=0)=false:=by simpa using h0
        have H0:=Lib.hid h0;rw[hd];have hF4:=(hB4.block _ (by omega)).trans hFF.out;obtain⟨f0,f1,f2,f3,f4,f5,f6⟩:=cells7 hF4;clear h0 hd q0 q1 q2 q3 q4 q5 q6 q7;go_wp2_with fail;clear f0 f1 f2 f3 f4 f5 f6 hF4;go_loopw [47] (fun i' wi=>∃c:Nat,i' = .int .i64 c∧c≤7∧Hid (PartsTo (pl ms) k n c)∧Below W4.heap.size W4 wi) (fun i' _=>7-(intOf i').toNat)
        case atStart=>exact⟨0,rfl,by decide,Lib.hid (fun i hi=>absurd hi (Nat.not_lt_zero _)),Below.refl _ _⟩
        case round =>
         obtain⟨c,rfl,hc,hPT,hBi⟩:=hrel;have hB5:=ret_tr hB4 hBi;have hBwi:=ret_tr hB2 hB5;have hPi:=(hB5.block _ (by omega)).trans hP2.out;have hCi:=(show _ from(by rw[Lib.cell_of_heap ((hB5.block _ (by omega)).trans hCC.out)];rfl):wr.cell? ⟨W1.heap.size,0,none⟩=some (.slice (some ⟨g,0,none⟩) ms.length capg));have HRi:=Lib.hid (hRow2.out.keep hB5);obtain⟨q0,q1,q2,q3,q4,q5,q6,q7⟩:=cells8 ((hBi.block _ (by omega)).trans hQ4);(have hcs:c=0∨c=1∨c=2∨c=3∨c=4∨c=5∨c=6∨c=7:=by omega);rcases hcs with rfl | rfl | rfl | rfl | rfl | rfl | rfl | rfl
         · have hx7:=idx7_0
           go_wp2_with fail;refine(part0_any (pl ms) k n aon capn _).mono ?_;rintro e W6 ⟨rfl,hb6⟩
           cases hp:partC (pl ms) k n 0 with
           | false =>
              have HX:Hid (rightC (pl ms) most room=false):=Lib.hid (by rw[HE.out];exact okTo_bad (by rw[pl_len];exact hlt) (by rw[HAT.out];exact okC_bad H0.out (by decide) hp));clear hp;go_wp2_with fail;go_ret;exact⟨ret_bool HX.out.symm,ret_tr hBwi hb6⟩
           | true =>
              have HX:=Lib.hid (parts_succ hPT.out hp);clear hp;go_wp2_with fail;go_roundw
              case rel=>exact⟨0+1,by go_num,by decide,HX,ret_tr hBi hb6⟩
              case measure=>simp[intOf]
         · have hx7:=idx7_1
           go_wp2_with fail;refine(part1_any (pl ms) k n aon capn _).mono ?_;rintro e W6 ⟨rfl,hb6⟩
           cases hp:partC (pl ms) k n 1 with
           | false =>
              have HX:Hid (rightC (pl ms) most room=false):=Lib.hid (by rw[HE.out];exact okTo_bad (by rw[pl_len];exact hlt) (by rw[HAT.out];exact okC_bad H0.out (by decide) hp));clear hp;go_wp2_with fail;go_ret;exact⟨ret_bool HX.out.symm,ret_tr hBwi hb6⟩
           | true =>
              have HX:=Lib.hid (parts_succ hPT.out hp);clear hp;go_wp2_with fail;go_roundw
              case rel=>exact⟨1+1,by go_num,by decide,HX,ret_tr hBi hb6⟩
              case measure=>simp[intOf]
         · have hx7:=idx7_2
           go_wp2_with fail;refine(part2_any (pl ms) k n aon capn _).mono ?_;rintro e W6 ⟨rfl,hb6⟩
           cases hp:partC (pl ms) k n 2 with
           | false =>
              have HX:Hid (rightC (pl ms) most room=false):=Lib.hid (by rw[HE.out];exact okTo_bad (by rw[pl_len];exact hlt) (by rw[HAT.out];exact okC_bad H0.out (by decide) hp));clear hp;go_wp2_with fail;go_ret;exact⟨ret_bool HX.out.symm,ret_tr hBwi hb6⟩
           | true =>
              have HX:=Lib.hid (parts_succ hPT.out hp);clear hp;go_wp2_with fail;go_roundw
              case rel=>exact⟨2+1,by go_num,by decide,HX,ret_tr hBi hb6⟩
              case measure=>simp[intOf]
         · have hx7:=idx7_3
           go_wp2_with fail;refine(part3_any (.slice (some ⟨b,off,none⟩) ms.length cap) ms most room w.heap.size k n aon capn _ (rdm_keep HV.out hBwi) (by omega) hPi (rdnm_keep HN.out hBwi) (by omega) HFt.out).mono ?_;rintro e W6 ⟨rfl,hb6⟩
           cases hp:partC (pl ms) k n 3 with
           | false =>
              have HX:Hid (rightC (pl ms) most room=false):=Lib.hid (by rw[HE.out];exact okTo_bad (by rw[pl_len];exact hlt) (by rw[HAT.out];exact okC_bad H0.out (by decide) hp));clear hp;go_wp2_with fail;go_ret;exact⟨ret_bool HX.out.symm,ret_tr hBwi hb6⟩
           | true =>
              have HX:=Lib.hid (parts_succ hPT.out hp);clear hp;go_wp2_with fail;go_roundw
              case rel=>exact⟨3+1,by go_num,by decide,HX,ret_tr hBi hb6⟩
              case measure=>simp[intOf]
         · have hx7:=idx7_4
           go_wp2_with fail;refine(part4_any (pl ms) g capg W1.heap.size k (by rw[pl_len];exact hlt) n aon capn _ (by rw[pl_len];exact hCi) (by rw[pl_len];exact HRi.out) (HNL.out k)).mono ?_;rintro e W6 ⟨rfl,hb6⟩
           cases hp:partC (pl ms) k n 4 with
           | false =>
              have HX:Hid (rightC (pl ms) most room=false):=Lib.hid (by rw[HE.out];exact okTo_bad (by rw[pl_len];exact hlt) (by rw[HAT.out];exact okC_bad H0.out (by decide) hp));clear hp;go_wp2_with fail;go_ret;exact⟨ret_bool HX.out.symm,ret_tr hBwi hb6⟩
           | true =>
              have HX:=Lib.hid (parts_succ hPT.out hp);clear hp;go_wp2_with fail;go_roundw
              case rel=>exact⟨4+1,by go_num,by decide,HX,ret_tr hBi hb6⟩
              case measure=>simp[intOf]
         · have hx7:=idx7_5
           go_wp2_with fail;refine(part5_any (pl ms) k n aon capn _).mono ?_;rintro e W6 ⟨rfl,hb6⟩
           cases hp:partC (pl ms) k n 5 with
           | false =>
              have HX:Hid (rightC (pl ms) most room=false):=Lib.hid (by rw[HE.out];exact okTo_bad (by rw[pl_len];exact hlt) (by rw[HAT.out];exact okC_bad H0.out (by decide) hp));clear hp;go_wp2_with fail;go_ret;exact⟨ret_bool HX.out.symm,ret_tr hBwi hb6⟩
           | true =>
              have HX:=Lib.hid (parts_succ hPT.out hp);clear hp;go_wp2_with fail;go_roundw
              case rel=>exact⟨5+1,by go_num,by decide,HX,ret_tr hBi hb6⟩
              case measure=>simp[intOf]
         · have hx7:=idx7_6
           go_wp2_with fail;refine(part6_any (.slice (some ⟨b,off,none⟩) ms.length cap) ms most room w.heap.size g capg W1.heap.size k hlt n HAT.out aon capn _ (rdm_keep HV.out hBwi) (by omega) hPi hCi HRi.out).mono ?_;rintro e W6 ⟨rfl,hb6⟩
           cases hp:partC (pl ms) k n 6 with
           | false =>
              have HX:Hid (rightC (pl ms) most room=false):=Lib.hid (by rw[HE.out];exact okTo_bad (by rw[pl_len];exact hlt) (by rw[HAT.out];exact okC_bad H0.out (by decide) hp));clear hp;go_wp2_with fail;go_ret;exact⟨ret_bool HX.out.symm,ret_tr hBwi hb6⟩
           | true =>
              have HX:=Lib.hid (parts_succ hPT.out hp);clear hp;go_wp2_with fail;go_roundw
              case rel=>exact⟨6+1,by go_num,by decide,HX,ret_tr hBi hb6⟩
              case measure=>simp[intOf]
         · have HX:=Lib.hid (okTo_succ hO.out (show okC (pl ms) k (atI (pl ms) k)=true by rw[HAT.out];exact okC_good H0.out hPT.out))
           go_wp2_with fail;go_roundw
           case rel=>exact⟨k+1,by go_num,hlt,HX,hB5⟩
           case measure=>simp[intOf];omega
    · have hke:k=ms.length:=by omega
      have HX:Hid (rightC (pl ms) most room=true):=Lib.hid (by rw[HE.out,pl_len,←hke];exact okTo_all hO.out);(have hI5:decide (k<ms.length)=false:=by simp;omega);clear hke hlt;go_wp2_with fail;go_ret;exact⟨ret_bool HX.out.symm,hBw⟩
end Go.Proofs.YtkoaicabkgaglaaGreatDoor
