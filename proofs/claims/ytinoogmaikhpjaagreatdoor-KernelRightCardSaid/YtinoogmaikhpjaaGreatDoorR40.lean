import Derived.Test.YtinoogmaikhpjaaGreatDoorR39
import Derived.Lib.QuietBelow
namespace Go.Proofs.YtinoogmaikhpjaaGreatDoor
open Go.RowKit Go.Shelf
attribute [local go_sem ↓] Go.wp_at_zero Go.wp_at_succ
def PartIs (l:List NodeL)(k:Nat)(n:NodeL)(c:Nat)(e:Ending)(W W':World):Prop:=e = .returned (.bool (partC l k n c))∧Below W.heap.size W W'
set_option maxRecDepth 100000 in
theorem part0_any (l:List NodeL)(k:Nat)(n:NodeL)(ao:Option Addr)(cap:Nat)(w:World):Calls Tryz.prog 28 #[.int .i64 k,nval n (.slice ao n.names.length cap)] w fun e w'=>PartIs l k n 0 e w w':=by
 have HE:Hid (partC l k n 0=plainB n):=Lib.hid rfl;go_enter Tryz.func28,Tryz.ntmps28;go_wp2_with fail;refine(plain_any n _ _).mono ?_;rintro e w1 ⟨rfl,hb1⟩;go_wp2_with fail;go_ret;exact⟨ret_bool HE.out.symm,bel_al (Below.refl _ w) hb1⟩
set_option maxRecDepth 100000 in
theorem part1_any (l:List NodeL)(k:Nat)(n:NodeL)(ao:Option Addr)(cap:Nat)(w:World):Calls Tryz.prog 30 #[.int .i64 k,nval n (.slice ao n.names.length cap)] w fun e w'=>PartIs l k n 1 e w w':=by
 have HE:Hid (partC l k n 1=((n.kind != 2) || List.isEmpty n.data)):=Lib.hid (by
  show(!decide (n.kind=2) || decide (n.data = []))=_;(have h1:List.isEmpty n.data=decide (n.data = []):=by cases n.data<;>rfl);rw[h1]
  rfl)
 have hb:Below w.heap.size w (w.alloc (.cells #[.int .i64 n.kind, .int .i64 n.mode, .int .i64 n.owner, .int .i64 n.links, .int .i64 n.opn, .int .i64 n.up, .string (bs n.data), .slice ao n.names.length cap] 47)):=(Below.refl _ w).alloc (Nat.le_refl _) _
 cases h:n.kind != 2 with
 | true =>
    rw[h]at HE;go_enter Tryz.func30,Tryz.ntmps30;go_wp2_with fail;go_ret;exact⟨ret_bool (by rw[HE.out];rfl),hb⟩
 | false =>
    rw[h]at HE;go_enter Tryz.func30,Tryz.ntmps30;go_wp2_with fail;go_ret;exact⟨ret_bool (by rw[HE.out];rfl),hb⟩
set_option maxRecDepth 100000 in
theorem part2_any (l:List NodeL)(k:Nat)(n:NodeL)(ao:Option Addr)(cap:Nat)(w:World):Calls Tryz.prog 31 #[.int .i64 k,nval n (.slice ao n.names.length cap)] w fun e w'=>PartIs l k n 2 e w w':=by
 have HE:Hid (partC l k n 2=((n.kind == 2) || ((n.names.length:Int) == 0))):=Lib.hid (by
  have hlen:((n.names.length:Int) == 0)=decide (n.names.length=0):=by
   rw[Bool.eq_iff_iff,beq_iff_eq,decide_eq_true_iff];omega
  rw[hlen]
  rfl)
 have hb:Below w.heap.size w (w.alloc (.cells #[.int .i64 n.kind, .int .i64 n.mode, .int .i64 n.owner, .int .i64 n.links, .int .i64 n.opn, .int .i64 n.up, .string (bs n.data), .slice ao n.names.length cap] 47)):=(Below.refl _ w).alloc (Nat.le_refl _) _
 cases h:n.kind == 2 with
 | true =>
    rw[h]at HE;go_enter Tryz.func31,Tryz.ntmps31;go_wp2_with fail;go_ret;exact⟨ret_bool (by rw[HE.out];rfl),hb⟩
 | false =>
    rw[h]at HE;go_enter Tryz.func31,Tryz.ntmps31;go_wp2_with fail;go_ret;exact⟨ret_bool (by rw[HE.out];rfl),hb⟩
set_option maxRecDepth 100000 in
theorem part5_any (l:List NodeL)(k:Nat)(n:NodeL)(ao:Option Addr)(cap:Nat)(w:World):Calls Tryz.prog 37 #[.int .i64 k,nval n (.slice ao n.names.length cap)] w fun e w'=>PartIs l k n 5 e w w':=by
 have HE:Hid (partC l k n 5=(decide (0<n.links) || decide (0<n.opn))):=Lib.hid rfl;have hb:Below w.heap.size w (w.alloc (.cells #[.int .i64 n.kind, .int .i64 n.mode, .int .i64 n.owner, .int .i64 n.links, .int .i64 n.opn, .int .i64 n.up, .string (bs n.data), .slice ao n.names.length cap] 47)):=(Below.refl _ w).alloc (Nat.le_refl _) _
 cases h:decide (0<n.links)with
 | true =>
    rw[h]at HE;go_enter Tryz.func37,Tryz.ntmps37;go_wp2_with fail;go_ret;exact⟨ret_bool (by rw[HE.out];rfl),hb⟩
 | false =>
    rw[h]at HE;go_enter Tryz.func37,Tryz.ntmps37;go_wp2_with fail;go_ret;exact⟨ret_bool (by rw[HE.out];rfl),hb⟩
set_option maxRecDepth 100000 in
set_option maxHeartbeats 1000000 in
theorem part3_any (v:Value)(ms:List NodeM)(most room:Int)(b0 k:Nat)(n:NodeL)(ao:Option Addr)(cap:Nat)(w:World)(hv:RdM w.heap.size v ms w)(hl:ms.length≤10000)(hd:w.heap[b0]? = some (.cells #[v, .int .i64 most, .int .i64 room] 24 (0,0)))(hn:RdNm w.heap.size (n, .slice ao n.names.length cap) w)(hnl:n.names.length≤10000)(hf:Fit n.names) :
 Calls Tryz.prog 32 #[.int .i64 k,nval n (.slice ao n.names.length cap), .pointer (some ⟨b0,0,none⟩)] w fun e w'=>PartIs (pl ms) k n 3 e w w':=by
 obtain⟨aod,capd,rfl,_,_⟩:=rdm_form hv;have HE:Hid (partC (pl ms) k n 3=(decide (SortedP n.names) && namableB (pl ms) n.names)):=Lib.hid rfl;have HV:=Lib.hid hv;have HN:Hid (Rd w.heap.size 2 (.slice ao n.names.length cap) n.names.length (ents n.names) w):=Lib.hid hn;have hlt:b0<w.heap.size:=(Array.getElem?_eq_some_iff.1 hd).1;clear hv hn;go_enter Tryz.func32,Tryz.ntmps32;go_wp2_with fail;refine fresh1 (P:=fun W=>Calls _ _ _ W _) ?_;intro W0 hb0 hQ hs0;refine(sorted_any w.heap.size _ n.names W0 (HN.out.below hb0) (by omega) hnl hf).mono ?_;rintro e W1 ⟨rfl,hb1⟩;have hB1:=ret_tr hb0 hb1;have hd1:=(hB1.block _ hlt).trans hd;have hQ1:=(hb1.block _ (by omega)).trans hQ;obtain⟨p0,p1,p2⟩:=cells3 hd1;have q7:=(cells8 hQ1).2.2.2.2.2.2.2
 cases hso:decide (SortedP n.names)with
 | false =>
    rw[hso]at HE;go_wp2_with fail;go_ret;exact⟨ret_bool (by rw[HE.out];rfl),hB1⟩
 | true =>
    rw[hso]at HE;go_wp2_with fail;refine(namable_any (.slice aod ms.length capd) (.slice ao n.names.length cap) ms n.names most room W1 (rdm_keep HV.out hB1) hl (rd_keep HN.out hB1) hnl).mono ?_;rintro e W2 ⟨rfl,hb2⟩;go_wp2_with fail;go_ret;exact⟨ret_bool (by rw[HE.out];rfl),ret_tr hB1 hb2⟩
set_option maxRecDepth 100000 in
set_option maxHeartbeats 1000000 in
theorem part4_any (l:List NodeL)(g capg c0 k:Nat)(hk:k<l.length)(n:NodeL)(ao:Option Addr)(cap:Nat)(w:World)(hc:w.cell? ⟨c0,0,none⟩=some (.slice (some ⟨g,0,none⟩) l.length capg))(hr:RowN g l.length (fun i=>nmL l i (0,0)) w)(hx:(nmL l k (0,0)).1≤100000) :
 Calls Tryz.prog 35 #[.int .i64 k,nval n (.slice ao n.names.length cap), .pointer (some ⟨c0,0,none⟩)] w fun e w'=>PartIs l k n 4 e w w':=by
 have HE:Hid (partC l k n 4=(n.links == linksC k (nmL l k (0,0)))):=Lib.hid rfl;obtain⟨r0,r1, -⟩:=hr.cells k hk;have hlt:g<w.heap.size:=hr.lt;have hltc:c0<w.heap.size:=block_lt_of_cell hc;(have k0:(0:Int)≤(k:Int):=by omega);(have k1:(k:Int)<(l.length:Int):=by omega);(have HL:=fun W=>links_any (nmL l k (0,0)) k W hx);generalize nmL l k (0,0)=s at *;clear hr hx;go_enter Tryz.func35,Tryz.ntmps35;go_wp2_with fail;refine fresh1 (P:=fun W=>Code.wp _ _ _ _ W) ?_;intro W0 hb0 hQ hs0;have cc:=cell_regrown ((hb0.cell (p:=⟨c0,0,none⟩) hltc).trans hc);have rr0:=cell_regrown ((hb0.cell (p:=⟨g,k*2,none⟩) hlt).trans r0);have rr1:=cell_regrown ((hb0.cell (p:=⟨g,k*2+1,none⟩) hlt).trans r1);have qq:=cell_regrown (cells8 hQ).2.2.2.1;refine wp_region_quiet_below (by kernel_rfl) (by kernel_rfl) ?_
 repeat (go_big_quiet_step ((go_at_call 36;exact Calls.regrown_of (HL _))))
 refine wpQuiet_nil ?_;clear cc rr0 rr1 qq;intro _ hw';obtain⟨⟨dq,osq⟩,hw''⟩:=hw';have hbg:Below W0.heap.size W0 _:=below_regrown W0 dq osq;rw[←hw'']at hbg;clear hw'';rename_i W2;have hB2:=ret_tr hb0 hbg;go_wp2_with fail;go_ret;exact⟨ret_bool HE.out.symm,hB2⟩
set_option maxRecDepth 100000 in
set_option maxHeartbeats 1000000 in
theorem part6_any (v:Value)(ms:List NodeM)(most room:Int)(b0 g capg c0 k:Nat)(hk:k<ms.length)(n:NodeL)(hn:atI (pl ms) k=n)(ao:Option Addr)(cap:Nat)(w:World)(hv:RdM w.heap.size v ms w)(hl:ms.length≤10000)(hd:w.heap[b0]? = some (.cells #[v, .int .i64 most, .int .i64 room] 24 (0,0)))
 (hc:w.cell? ⟨c0,0,none⟩=some (.slice (some ⟨g,0,none⟩) ms.length capg)) (hr:RowN g ms.length (fun i=>nmL (pl ms) i (0,0)) w) :
 Calls Tryz.prog 38 #[.int .i64 k,nval n (.slice ao n.names.length cap), .pointer (some ⟨b0,0,none⟩), .pointer (some ⟨c0,0,none⟩)] w fun e w'=>PartIs (pl ms) k n 6 e w w':=by
 obtain⟨aod,capd,rfl,_,_⟩:=rdm_form hv
 have HE:Hid (partC (pl ms) k n 6=((n.kind != 2) || (((k:Int) == 0) || placedC (pl ms) k n (nmL (pl ms) k (0,0))))):=Lib.hid (by
  show(!decide (n.kind=2) || decide ((k:Int)=0) || placedC (pl ms) k n (nmL (pl ms) k (0,0)))=_;rw[Bool.or_assoc]
  rfl)
 obtain⟨r0,r1, -⟩:=hr.cells k hk;have hlt:g<w.heap.size:=hr.lt;have hltc:c0<w.heap.size:=block_lt_of_cell hc;have hltd:b0<w.heap.size:=(Array.getElem?_eq_some_iff.1 hd).1;(have k0:(0:Int)≤(k:Int):=by omega);(have k1:(k:Int)<(ms.length:Int):=by omega);have HV:=Lib.hid hv
 have HPl:Hid (∀W,Below w.heap.size w W→Calls Tryz.prog 39 #[.agg #[.slice aod ms.length capd, .int .i64 most, .int .i64 room], .agg #[.int .i64 (nmL (pl ms) k (0,0)).1, .int .i64 (nmL (pl ms) k (0,0)).2], .int .i64 k] W fun e w'=>e = .returned (.bool (placedC (pl ms) k n (nmL (pl ms) k (0,0))))∧Below W.heap.size W w') :=
  Lib.hid fun W hb=>by rw[←hn];exact placed_any _ ms most room k _ _ W hk (rdm_keep HV.out hb) hl
 generalize hs:nmL (pl ms) k (0,0)=s at *;clear hr hv hn;go_enter Tryz.func38,Tryz.ntmps38;go_wp2_with fail;refine fresh1 (P:=fun W=>Code.wp _ _ _ _ W) ?_;intro W0 hb0 hQ hs0;(have HL : ∀W,Below W0.heap.size W0 W→_:=fun W hb=>HPl.out W (ret_tr hb0 hb));have dd:=cells3 ((hb0.block _ hltd).trans hd);have cc:=cell_regrown ((hb0.cell (p:=⟨c0,0,none⟩) hltc).trans hc);have rr0:=cell_regrown ((hb0.cell (p:=⟨g,k*2,none⟩) hlt).trans r0);have rr1:=cell_regrown ((hb0.cell (p:=⟨g,k*2+1,none⟩) hlt).trans r1);have qq:=cell_regrown (cells8 hQ).1;have dd0:=cell_regrown dd.1;have dd1:=cell_regrown dd.2.1;have dd2:=cell_regrown dd.2.2;clear dd
 cases h1:n.kind != 2 with
 | true =>
    rw[h1]at HE;refine wp_region_quiet_below (by kernel_rfl) (by kernel_rfl) ?_
    repeat (go_big_quiet_step (fail))
    refine wpQuiet_nil ?_;clear cc rr0 rr1 qq dd0 dd1 dd2;intro _ hw';obtain⟨⟨dq,osq⟩,hw''⟩:=hw';have hbg:Below W0.heap.size W0 _:=below_regrown W0 dq osq;rw[←hw'']at hbg;clear hw'';rename_i W2;have hB2:=ret_tr hb0 hbg;go_wp2_with fail;go_ret;exact⟨ret_bool (by rw[HE.out];rfl),hB2⟩
 | false =>
    rw[h1]at HE;by_cases kz:k=0
    · have kI:((k:Int) == 0)=true:=by rw[beq_iff_eq];omega
      rw[kI]at HE;refine wp_region_quiet_below (by kernel_rfl) (by kernel_rfl) ?_
      repeat (go_big_quiet_step (fail))
      refine wpQuiet_nil ?_;clear cc rr0 rr1 qq dd0 dd1 dd2;intro _ hw';obtain⟨⟨dq,osq⟩,hw''⟩:=hw';have hbg:Below W0.heap.size W0 _:=below_regrown W0 dq osq;rw[←hw'']at hbg;clear hw'';rename_i W2;have hB2:=ret_tr hb0 hbg;go_wp2_with fail;go_ret;exact⟨ret_bool (by rw[HE.out];rfl),hB2⟩
    · have kI:((k:Int) == 0)=false:=by rw[beq_eq_false_iff_ne];omega
      rw[kI]at HE;refine wp_region_quiet_below (by kernel_rfl) (by kernel_rfl) ?_
      repeat (go_big_quiet_step ((go_at_call 39;exact Calls.regrown_of (HL _ (below_regrown W0 _ _)))))
      refine wpQuiet_nil ?_;clear cc rr0 rr1 qq dd0 dd1 dd2;intro _ hw';obtain⟨⟨dq,osq⟩,hw''⟩:=hw';have hbg:Below W0.heap.size W0 _:=below_regrown W0 dq osq;rw[←hw'']at hbg;clear hw'';rename_i W2;have hB2:=ret_tr hb0 hbg;go_wp2_with fail;go_ret;exact⟨ret_bool (by rw[HE.out];rfl),hB2⟩
end Go.Proofs.YtinoogmaikhpjaaGreatDoor
