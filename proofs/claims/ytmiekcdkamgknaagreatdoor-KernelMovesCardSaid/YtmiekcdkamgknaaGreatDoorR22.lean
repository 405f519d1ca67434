import Derived.Test.YtmiekcdkamgknaaGreatDoorR21
namespace Go.Proofs.YtmiekcdkamgknaaGreatDoor
open Go.RowKit Go.Shelf
attribute [local go_sem ↓] Go.wp_at_zero Go.wp_at_succ
theorem heap_at_new2 (w:World)(o1 o2:Obj):((w.alloc o1).drew.alloc o2).heap[w.heap.size+1]? = some o2:=by
 have:=heap_alloc_new (w.alloc o1).drew o2;simpa using this
theorem heap_at_old2 (w:World)(o1 o2:Obj):((w.alloc o1).drew.alloc o2).heap[w.heap.size]? = some o1 :=
 (((Below.refl (w.heap.size+1) (w.alloc o1).drew).alloc (by simp) o2).block w.heap.size (Nat.lt_succ_self _)).trans (heap_alloc_new w o1)
theorem rd_sets {g n size:Nat}{v:Value}{xs:List Value}{W W':World}(h:Rd W.heap.size size v n xs W)(hs:W.heap.size≤W'.heap.size)(hg : ∀k,k≠g→W'.heap[k]? = W.heap[k]?)(hne:v.ownBlock≠some g):Rd W'.heap.size size v n xs W':=by
 obtain⟨ao,cap,rfl,hc,hm,hz,hl,h⟩:=h;refine⟨ao,cap,rfl,hc,hm,hz,hl,fun hn=> ?_⟩;obtain⟨b,off,rfl,hb,h⟩:=h hn;(have hbg:b≠g:=fun e=>hne (by rw[e];rfl));refine⟨b,off,rfl,by omega,fun j u hu=> ?_⟩;rw[World.cell?_of_block (a:=⟨b,off+j,Option.none⟩) (hg b hbg)];exact h j u hu
theorem getL_node (l:List NodeL)(i:Int):getL l i=nodeL l i:=by unfold getL nodeL;cases gotB l i<;>rfl
structure DskOk (ms:List NodeM):Prop where
 len:ms.length≤10000
 nms : ∀n∈pl ms,n.names.length≤10000
 right:RightP (pl ms)
theorem DskOk.names {ms:List NodeM}(hd:DskOk ms)(i:Int):(nodeL (pl ms) i).names.length≤10000:=by
 cases hg:gotB (pl ms) i with
 | false=>unfold nodeL;rw[hg];exact Nat.zero_le _
 | true =>
    obtain⟨k,rfl,hlt,hn,_,_⟩:=right_ok hd.right hg;rw[hn];exact hd.nms _ (List.getElem_mem hlt)
def DirIs (l:List NodeL)(i:Int)(e:Ending)(w w':World):Prop :=
 (dirE l i≠0∧e = .returned (.tuple #[nval zeroN (.slice none 0 0),faultV (dirE l i)])∧Below w.heap.size w w') ∨
   (dirE l i=0∧∃v,e = .returned (.tuple #[nval (nodeL l i) v, .nilIface])∧RdNm w'.heap.size (nodeL l i,v) w'∧Below w.heap.size w w')
set_option maxRecDepth 100000 in
set_option maxHeartbeats 4000000 in
theorem dir_any (b:Nat)(F:WayF)(i:Int)(vl:Value)(left:List Str)(hops:Nat)(sp:SpotL)(ms:List NodeM)(w:World)(hw:WayM b F i vl left hops sp w)(hv:RdM w.heap.size F.nodes ms w)(hd:DskOk ms) :
 Calls Tryz.prog 200 #[.pointer (some ⟨b,0,none⟩)] w fun e w'=>DirIs (pl ms) i e w w':=by
 obtain⟨aod,capd,ed,_,_⟩:=rdm_form hv;obtain⟨nodes,most,room,who,follow,slash⟩:=F;dsimp only at ed hv;subst ed;have HV:=Lib.hid hv;have HW:=Lib.hid hw;have hbl:=hw.lt
 have hS : ∀W,Below w.heap.size w W→W.cell? ⟨b,0,none⟩=some (.slice aod ms.length capd)∧W.cell? ⟨b,1,none⟩=some (.int .i64 most)∧W.cell? ⟨b,2,none⟩=some (.int .i64 room)∧W.cell? ⟨b,6,none⟩=some (.int .i64 i):=fun W hb=>by
  obtain⟨c0,c1,c2,c3,c4,c5,c6,c7,c8,c9,c10,c11,c12⟩:=cells13 ((hb.block _ hbl).trans hw.blk);exact⟨c0,c1,c2,c6⟩
 have HG : ∀W,Below w.heap.size w W→Calls Tryz.prog 58 #[.agg #[.slice aod ms.length capd, .int .i64 most, .int .i64 room], .int .i64 i] W fun e w'=>GetNew (pl ms) i e W w' :=
  fun W hb=>get_new _ ms most room i W (rdm_keep hv hb) hd.len hd.nms
 have HGG:=Lib.hid HG;have HSS:=Lib.hid hS;clear hv hw hS HG
 have hret : ∀(W:World) (cs:Array Value) (fr),W.heap[w.heap.size]? = some (.cells cs 78 fr)→cs.size=8→∀tmps:Array Value,tmps.getD 2 undef = .pointer (some ⟨w.heap.size,0,none⟩)→(results Tryz.f200 tmps).run Tryz.prog W = .ok (.tuple #[.agg cs,tmps.getD 3 undef]) W:=fun W cs fr h hs tmps ht =>
  results_ct (p:=2) (u:=3) (ty:=78) rfl tmps W w.heap.size _ cs fr _ ht h Tryz.underlying78 rfl (by rw[hs];kernel_rfl)
 have HRET:=Lib.hid hret;clear hret;go_enter Tryz.func200,Tryz.ntmps200;go_wp2_with fail
 go_region_held3 (fun W=>W.cell? ⟨b,0,none⟩=some (.slice aod ms.length capd)∧W.cell? ⟨b,1,none⟩=some (.int .i64 most)∧W.cell? ⟨b,2,none⟩=some (.int .i64 room)∧W.cell? ⟨b,6,none⟩=some (.int .i64 i))
  (first
    | exact HSS.out _ (by go_grown)
    | go_keep)
  (first
    | (go_at_call 58;(with_reducible refine(HGG.out _ (by go_grown)).mono ?_);intro e W4 hget;obtain⟨v4,rfl,hr4,hb4,nw4⟩:=hget;have bw4:Below w.heap.size w W4:=(ret_tr (w:=w) (by go_grown) hb4);have sw4:=bw4.size;have hq4:=(hb4.block w.heap.size (by simp<;>omega)).trans (by first | exact heap_alloc_new w _ | exact heap_at_old2 w _ _);(try (have hz4:=(hb4.block (w.heap.size+1) (by simp)).trans (heap_at_new2 w _ _);have zf:=(fun i=>Lib.frozen_of_heap hz4 i);obtain⟨z0,z1,z2,z3,z4,z5,z6,z7⟩:=cells8 hz4));have hf4:=Rd.form hr4;obtain⟨ao4,cp4,ev4,_,_⟩:=hf4;have ev5:v4 = .slice ao4 (getL (pl ms) i).names.length cp4:=ev4;subst ev5)
    | fail)
 · refine fresh1 (P:=fun W=>Exit.then _ _ _ _ W) ?_
   intro W5 hb5 hn5 hs5;have bw5:Below w.heap.size w W5:=bw4.trans (hb5.mono sw4);have hq5:W5.heap[w.heap.size]? = some _:=(hb5.block _ (Array.getElem?_eq_some_iff.1 hq4).1).trans hq4;have hr5:=Lib.hid (rdnm_keep hr4 hb5);(have hne:(Value.slice ao4 (getL (pl ms) i).names.length cp4).ownBlock≠some w.heap.size:=fun e=>by have:=nw4 _ e;simp at this;omega);clear nw4 hq4 hb4 bw4 hb5 hr4;rw[getL_node]at hr5 hn5 hne;rw[getL_node]
   cases hg:gotB (pl ms) i with
   | false =>
      have HE:Hid (dirE (pl ms) i=2):=Lib.hid (by unfold dirE;rw[hg];rfl);obtain⟨q0,q1,q2,q3,q4,q5,q6,q7⟩:=cells8 hq5;(have rf:=fun j=>Lib.frozen_of_heap hq5 j);clear hg hr5;go_wp2_with fail;refine sets8 (P:=fun W=>bodyPost _ _ _ _ _ W) hq5 ?_;intro W6 hb6 hg6 hs6 hR6;refine bodyPost_ret (HRET.out _ _ _ hR6 rfl _ rfl) rfl ?_;exact .inl ⟨by rw[HE.out];decide,by rw[HE.out];rfl,bw5.trans hb6⟩
   | true =>
      have HGot:=Lib.hid hg;clear hg;obtain⟨n,hn⟩ : ∃n,n=nodeL (pl ms) i:=⟨_,rfl⟩;rw[←hn]at hr5 hn5 hne;have HNE:=Lib.hid hne;clear hne;rw[←hn];have HN:=Lib.hid hn;clear hn;obtain⟨n0,n1,n2,n3,n4,n5,n6,n7⟩:=cells8 hn5;obtain⟨q0,q1,q2,q3,q4,q5,q6,q7⟩:=cells8 hq5;(have rf:=fun j=>Lib.frozen_of_heap hq5 j);by_cases hk:n.kind=2
      · have hI:(n.kind != 2)=false:=by simpa using hk
        have HE:Hid (dirE (pl ms) i=0):=Lib.hid (by unfold dirE;rw[HGot.out,if_pos rfl,←HN.out,if_pos hk]);clear hk;go_wp2_with fail;refine sets8 (P:=fun W=>bodyPost _ _ _ _ _ W) hq5 ?_;intro W6 hb6 hg6 hs6 hR6;refine bodyPost_ret (HRET.out _ _ _ hR6 rfl _ rfl) rfl ?_;exact .inr ⟨HE.out, .slice ao4 n.names.length cp4,by rw[←HN.out];rfl,by rw[←HN.out];exact rd_sets hr5.out (by omega) hg6 HNE.out,bw5.trans hb6⟩
      · have hI:(n.kind != 2)=true:=by simpa using hk
        have HE:Hid (dirE (pl ms) i=4):=Lib.hid (by unfold dirE;rw[HGot.out,if_pos rfl,←HN.out,if_neg hk]);clear hk hr5;go_wp2_with fail;refine sets8 (P:=fun W=>bodyPost _ _ _ _ _ W) hq5 ?_;intro W6 hb6 hg6 hs6 hR6;refine bodyPost_ret (HRET.out _ _ _ hR6 rfl _ rfl) rfl ?_;exact .inl ⟨by rw[HE.out];decide,by rw[HE.out];rfl,bw5.trans hb6⟩
 · refine sets8 (P:=fun W=>Exit.then _ _ _ _ W) hz4 ?_
   intro W5 hb5 hg5 hs5 hn5;have bw5:Below w.heap.size w W5:=bw4.trans (hb5.mono (by omega));have hq5:W5.heap[w.heap.size]? = some _:=(hg5 _ (by omega)).trans hq4;have hr5:=Lib.hid (rd_sets hr4 hb5.size hg5 (fun e=>by have:=nw4 _ e;simp at this;omega));(have hne:(Value.slice ao4 (getL (pl ms) i).names.length cp4).ownBlock≠some w.heap.size:=fun e=>by have:=nw4 _ e;simp at this;omega);clear nw4 hq4 hb4 bw4 hb5 z0 z1 z2 z3 z4 z5 z6 z7 zf hz4;rw[getL_node]at hr5 hn5 hne;rw[getL_node]
   cases hg:gotB (pl ms) i with
   | false =>
      have HE:Hid (dirE (pl ms) i=2):=Lib.hid (by unfold dirE;rw[hg];rfl);obtain⟨q0,q1,q2,q3,q4,q5,q6,q7⟩:=cells8 hq5;(have rf:=fun j=>Lib.frozen_of_heap hq5 j);clear hg hr5;go_wp2_with fail;refine sets8 (P:=fun W=>bodyPost _ _ _ _ _ W) hq5 ?_;intro W6 hb6 hg6 hs6 hR6;refine bodyPost_ret (HRET.out _ _ _ hR6 rfl _ rfl) rfl ?_;exact .inl ⟨by rw[HE.out];decide,by rw[HE.out];rfl,bw5.trans hb6⟩
   | true =>
      have HGot:=Lib.hid hg;clear hg;obtain⟨n,hn⟩ : ∃n,n=nodeL (pl ms) i:=⟨_,rfl⟩;rw[←hn]at hr5 hn5 hne;have HNE:=Lib.hid hne;clear hne;rw[←hn];have HN:=Lib.hid hn;clear hn;obtain⟨n0,n1,n2,n3,n4,n5,n6,n7⟩:=cells8 hn5;obtain⟨q0,q1,q2,q3,q4,q5,q6,q7⟩:=cells8 hq5;(have rf:=fun j=>Lib.frozen_of_heap hq5 j);by_cases hk:n.kind=2
      · have hI:(n.kind != 2)=false:=by simpa using hk
        have HE:Hid (dirE (pl ms) i=0):=Lib.hid (by unfold dirE;rw[HGot.out,if_pos rfl,←HN.out,if_pos hk]);clear hk;go_wp2_with fail;refine sets8 (P:=fun W=>bodyPost _ _ _ _ _ W) hq5 ?_;intro W6 hb6 hg6 hs6 hR6;refine bodyPost_ret (HRET.out _ _ _ hR6 rfl _ rfl) rfl ?_;exact .inr ⟨HE.out, .slice ao4 n.names.length cp4,by rw[←HN.out];rfl,by rw[←HN.out];exact rd_sets hr5.out (by omega) hg6 HNE.out,bw5.trans hb6⟩
      · have hI:(n.kind != 2)=true:=by simpa using hk
        have HE:Hid (dirE (pl ms) i=4):=Lib.hid (by unfold dirE;rw[HGot.out,if_pos rfl,←HN.out,if_neg hk]);clear hk hr5;go_wp2_with fail;refine sets8 (P:=fun W=>bodyPost _ _ _ _ _ W) hq5 ?_;intro W6 hb6 hg6 hs6 hR6;refine bodyPost_ret (HRET.out _ _ _ hR6 rfl _ rfl) rfl ?_;exact .inl ⟨by rw[HE.out];decide,by rw[HE.out];rfl,bw5.trans hb6⟩
end Go.Proofs.YtmiekcdkamgknaaGreatDoor
namespace Go.Proofs.YtmiekcdkamgknaaGreatDoor
open Go.RowKit Go.Shelf
attribute [local go_sem ↓] Go.wp_at_zero Go.wp_at_succ
def lookN (i:Int)(n:NodeL)(p:Str):Int:=if p = [46]then i else if p = [46,46]then n.up else(findL n.names p).getD (-1)
set_option maxRecDepth 100000 in
set_option maxHeartbeats 4000000 in
theorem named_any (b:Nat)(F:WayF)(i:Int)(vl:Value)(left:List Str)(hops:Nat)(sp:SpotL)(n:NodeL)(v:Value)(p:Str)(w:World)(hw:WayM b F i vl left hops sp w)(hv:RdNm w.heap.size (n,v) w)(hl:n.names.length≤10000)(hu:Up n.names) :
 Calls Tryz.prog 217 #[.pointer (some ⟨b,0,none⟩),nval n v, .string (bs p)] w fun e w'=>NumIs (lookN i n p) e w w':=by
 obtain⟨ao,cap,e,_,_⟩:=Rd.form hv;have e':v = .slice ao n.names.length cap:=e;subst e';have HV:Hid (Rd w.heap.size 2 (.slice ao n.names.length cap) n.names.length (ents n.names) w):=Lib.hid hv;have hbl:=hw.lt;have hb0:Below w.heap.size w (w.alloc (.cells #[.int .i64 n.kind, .int .i64 n.mode, .int .i64 n.owner, .int .i64 n.links, .int .i64 n.opn, .int .i64 n.up, .string (bs n.data), .slice ao n.names.length cap] 78)):=(Below.refl _ _).alloc (Nat.le_refl _) _;obtain⟨c0,c1,c2,c3,c4,c5,c6,c7,c8,c9,c10,c11,c12⟩:=cells13 (hw.keep hb0).blk;have HU:=Lib.hid hu;clear hv e hw hu c0 c1 c2 c3 c4 c5 c7 c8 c9 c10 c11 c12;by_cases h1:p = [46]
 · have hI:(p == [46])=true:=by simpa using h1
   have HE:Hid (lookN i n p=i):=Lib.hid (by unfold lookN;rw[if_pos h1]);clear h1;go_enter Tryz.func217,Tryz.ntmps217;go_wp2_with fail;go_ret;exact⟨ret_int HE.out.symm,hb0⟩
 (have hI1:(p == [46])=false:=by simpa using h1);by_cases h2:p = [46,46]
 · have hI:(p == [46,46])=true:=by simpa using h2
   have HE:Hid (lookN i n p=n.up):=Lib.hid (by unfold lookN;rw[if_neg h1,if_pos h2]);clear h1 h2;go_enter Tryz.func217,Tryz.ntmps217;go_wp2_with fail;go_ret;exact⟨ret_int HE.out.symm,hb0⟩
 (have hI2:(p == [46,46])=false:=by simpa using h2);have HE:Hid (lookN i n p=(findL n.names p).getD (-1)):=Lib.hid (by unfold lookN;rw[if_neg h1,if_neg h2]);clear h1 h2;go_enter Tryz.func217,Tryz.ntmps217;go_wp2_with fail;refine(find_any _ _ n.names p _ (rd_keep HV.out hb0) (Nat.le_refl _) hl HU.out).mono ?_;rintro e w1 ⟨rfl,hb1⟩;go_wp2_with fail;go_ret;exact⟨ret_int (by rw[HE.out];rfl),ret_tr hb0 hb1⟩
def finL (l:List NodeL)(F:WayF)(i:Int)(left:List Str)(hops:Nat)(sp:SpotL):ResL:=if left = []then(sp,0)else goW l F.who F.follow F.slash i left hops
def StepIs (l:List NodeL)(b:Nat)(F:WayF)(M:Nat)(R:ResL)(e:Ending)(w w':World):Prop :=
 (∃n,R=(zeroS,n)∧Wrong n b e w w')∨(∃i left hops sp,GoesOn b F i left hops sp e w w'∧finL l F i left hops sp=R∧hops≤8∧(8-hops)*101+left.length<M)
theorem parts_le (p:Str):(parts p).length≤p.length:=by have:=spans_len p;simpa[parts]using this
theorem check_len {p:Str}(h:checkE p=0):p.length≤100:=by
 unfold checkE at h;split at h
 · cases h
 · split at h
   · cases h
   · omega
theorem StepIs.from {l:List NodeL}{b:Nat}{F:WayF}{M:Nat}{R:ResL}{e:Ending}{w w0 w':World}(hg:w.grownBy w0 (some b))(h:StepIs l b F M R e w0 w'):StepIs l b F M R e w w':=by
 rcases h with⟨n,h1,h2,h3,h4⟩ | ⟨i,left,hops,sp,⟨vl,h1,h2,h3⟩,h4⟩
 · exact .inl ⟨n,h1,h2,h3,grown_tr hg h4⟩
 · exact .inr ⟨i,left,hops,sp,⟨vl,h1,h2,grown_tr hg h3⟩,h4⟩
theorem StepIs.ends {l:List NodeL}{b:Nat}{F:WayF}{M:Nat}{R:ResL}{e:Ending}{w w':World}(h:StepIs l b F M R e w w') : ∃v:Value,e = .returned v∧v.oneCell'=true∧StepIs l b F M R (.returned v) w w':=by
 rcases h with⟨n,h1,h2,rfl,h4⟩ | ⟨i,left,hops,sp,⟨vl,rfl,h2,h3⟩,h4⟩
 · exact⟨_,rfl,rfl, .inl ⟨n,h1,h2,rfl,h4⟩⟩
 · exact⟨_,rfl,rfl, .inr ⟨i,left,hops,sp,⟨vl,rfl,h2,h3⟩,h4⟩⟩
theorem step_hop {l:List NodeL}{b:Nat}{F:WayF}{i:Int}{p:Str}{rest:List Str}{hops:Nat}{e:Ending}{w w':World}(h:dirE l i=0)(h2:mayAt l F.who i=true)(h3: ¬lookL l i p<0)(h4:(nodeL l (lookL l i p)).kind=3)(h5:rest≠ []∨F.follow=true∨F.slash=true)(hh:hops≤8)
 (hop:HopIs (checkE (nodeL l (lookL l i p)).data) b F i rest hops (nodeL l (lookL l i p)).data e w w'):StepIs l b F ((8-hops)*101+rest.length+1) (goW l F.who F.follow F.slash i (p::rest) hops) e w w':=by
  unfold HopIs at hop;split at hop
  · rename_i h6
    rw[go_loop h h2 h3 h4 h5 h6];exact .inl ⟨8,rfl,hop⟩
  · rename_i h6
    rcases hop with hop | ⟨h7,hop⟩
    · by_cases h7:checkE (nodeL l (lookL l i p)).data=0
      · exact absurd h7 hop.1
      · rw[go_bad h h2 h3 h4 h5 h6 h7]
        exact .inl ⟨_,rfl,hop⟩
    · rw[go_link h h2 h3 h4 h5 h6 h7]
      refine .inr ⟨_,_,_,_,hop,?_,by omega,?_⟩
      · unfold finL
        split
        · rename_i h8
          rw[h8,go_nil]
        · rfl
      · have h9:=parts_le (nodeL l (lookL l i p)).data
        have h10:=check_len h7;rw[List.length_append];omega
set_option maxRecDepth 100000 in
set_option maxHeartbeats 4000000 in
theorem enter_last (b:Nat)(F:WayF)(i:Int)(vl:Value)(p:Str)(hops:Nat)(ms:List NodeM)(w:World)(hw:WayM b F i vl [] hops ⟨i,p,lookL (pl ms) i p,F.slash⟩ w)(hv:RdM w.heap.size F.nodes ms w)(hd:DskOk ms)
 (h1:dirE (pl ms) i=0) (h2:mayAt (pl ms) F.who i=true) (hh:hops≤8) (hdl : ∀n∈pl ms,n.data.length≤10000) :
 Calls Tryz.prog 218 #[.pointer (some ⟨b,0,none⟩), .int .i64 (lookL (pl ms) i p)] w fun e w'=>StepIs (pl ms) b F ((8-hops)*101+0+1) (goW (pl ms) F.who F.follow F.slash i [p] hops) e w w':=by
 obtain⟨aod,capd,ed,_,_⟩:=rdm_form hv;obtain⟨aol,capl,el,_,_⟩:=hw.lft.form;obtain⟨nodes,most,room,who,follow,slash⟩:=F;dsimp only at ed hv h2 hw ⊢;subst ed;subst el;have HW:=Lib.hid hw;have hbl:=hw.lt;obtain⟨c0,c1,c2,c3,c4,c5,c6,c7,c8,c9,c10,c11,c12⟩:=cells13 hw.blk;have HG:=Lib.hid (get_any _ ms most room (lookL (pl ms) i p) w hv hd.len hd.nms);have hlook:gotB (pl ms) (lookL (pl ms) i p)=true↔0≤lookL (pl ms) i p:=(look_got hd.right h1 p).trans (by omega);(have hkind:=fun h=>right_kind (i:=lookL (pl ms) i p) hd.right h);obtain⟨j,hj⟩ : ∃j,j=lookL (pl ms) i p:=⟨_,rfl⟩;have HJ:=Lib.hid hj;rw[←hj]at HG hlook hkind c11 ⊢;have H1:=Lib.hid h1;have H2:=Lib.hid h2;have HLK:=Lib.hid hlook;have HKD:=Lib.hid hkind;clear hj h1 h2 hw hlook hkind;go_enter Tryz.func218,Tryz.ntmps218;go_wp2_with fail;refine HG.out.mono ?_;rintro e w4 ⟨v4,rfl,hr4,hb4⟩;rw[getL_node]at hr4 ⊢;have hW4:=HW.out.keep hb4;have HW4:=Lib.hid hW4;have HB4:=Lib.hid hb4;obtain⟨ao4,cp4,e4,_,_⟩:=Rd.form hr4;have e4':v4 = .slice ao4 (nodeL (pl ms) j).names.length cp4:=e4;subst e4';clear c0 c1 c2 c3 c4 c5 c6 c7 c8 c9 c10 c11 c12 hr4 e4;obtain⟨c0,c1,c2,c3,c4,c5,c6,c7,c8,c9,c10,c11,c12⟩:=cells13 hW4.blk;have hbl4:=hW4.lt;(have rf:=fun j'=>Lib.frozen_of_heap hW4.blk j');clear hW4 hb4
 cases hg:gotB (pl ms) j with
 | false =>
    have hneg:lookL (pl ms) i p<0:=by
     rw[←HJ.out];exact Decidable.byContradiction fun h=>by have:=HLK.out.2 (by omega);rw[hg]at this;cases this
    have hm1:=(look_neg hd.right H1.out p).1 hneg;have HR:Hid (goW (pl ms) who follow slash i [p] hops=(⟨i,p,j,slash⟩,0)):=Lib.hid (by rw[go_none1 H1.out H2.out hneg rfl,HJ.out,hm1]);clear hg hneg hm1;go_wp2_with fail;refine fresh1 (P:=fun W=>bodyPost _ _ _ _ _ W) ?_;intro W5 hb5 hn5 hs5;go_ret;exact .inr ⟨i,[],hops,_,⟨_,rfl,HW4.out.keep hb5,grown_bel (ret_tr HB4.out hb5)⟩,by rw[HR.out,HJ.out];rfl,hh,by simp⟩
 | true =>
    (have hnn: ¬lookL (pl ms) i p<0:=by have:=HLK.out.1 hg;rw[←HJ.out];omega);have HNN:Hid (0≤lookL (pl ms) i p):=Lib.hid (by omega);have hk:=HKD.out hg
    have hdj:(nodeL (pl ms) j).data.length≤10000:=by
     obtain⟨k,rfl,hlt,hn,_,_⟩:=right_ok hd.right hg;rw[hn];exact hdl _ (List.getElem_mem hlt)
    clear hg hnn;obtain⟨m,hm⟩ : ∃m,m=nodeL (pl ms) j:=⟨_,rfl⟩;have HM:Hid (nodeL (pl ms) (lookL (pl ms) i p)=m):=Lib.hid (by rw[←HJ.out,hm]);rw[←hm]at hk hdj ⊢;clear hm
    have hset : ∀(o:Obj),goW (pl ms) who follow slash i [p] hops=(⟨i,p,j,slash⟩,0) →
     StepIs (pl ms) b ⟨.slice aod ms.length capd,most,room,who,follow,slash⟩ ((8-hops)*101+0+1) (goW (pl ms) who follow slash i [p] hops) (.returned .nilIface) w ((w4.setCell ⟨b,6,none⟩ (.int .i64 j)).alloc o):=fun o hR =>
     .inr ⟨j,[],hops,_,⟨_,rfl,(HW4.out.setAt j).keep ((Below.refl _ _).alloc (Nat.le_refl _) o),grown_al (grown_sc (grown_bel HB4.out) _) o⟩,by rw[hR,HJ.out];rfl,hh,by simp⟩
    have HSET:=Lib.hid hset;(have hne3 : ∀(x:Int),x≠3→m.kind=x→¬((nodeL (pl ms) (lookL (pl ms) i p)).kind=3∧(([]:List Str)≠ []∨follow=true∨slash=true)):=fun x h1 h2 h=>by rw[HM.out,h2]at h;exact h1 h.1);have HNE:=Lib.hid hne3;clear hset hne3;rcases hk with hk | hk | hk
    · have k1:(m.kind == 3)=false:=by rw[hk];rfl
      (have k2:(m.kind == 1)=true:=by rw[hk];rfl);have HN3:=HNE.out 1 (by decide) hk
      cases slash with
      | true =>
         have HR:Hid (goW (pl ms) who follow true i [p] hops=(zeroS,4)):=Lib.hid (go_file H1.out H2.out (Int.not_lt.2 HNN.out) HN3 rfl ⟨rfl,by rw[HM.out,hk];decide⟩);clear hk HN3;go_wp2_with fail;refine fresh1 (P:=fun W=>bodyPost _ _ _ _ _ W) ?_;intro W5 hb5 hn5 hs5;go_ret;exact .inl ⟨4,HR.out,by decide,rfl,grown_bel (ret_tr HB4.out hb5)⟩
      | false =>
         have HR:Hid (goW (pl ms) who follow false i [p] hops=(⟨i,p,j,false⟩,0)):=Lib.hid (by rw[go_spot H1.out H2.out (Int.not_lt.2 HNN.out) HN3 rfl (by rintro⟨h,_⟩;cases h),HJ.out]);clear hk HN3;go_wp2_with fail;go_ret;exact HSET.out _ HR.out
    · have k1:(m.kind == 3)=false:=by rw[hk];rfl
      (have k2:(m.kind == 1)=false:=by rw[hk];rfl);(have k3:(m.kind == 2)=true:=by rw[hk];rfl);have HN3:=HNE.out 2 (by decide) hk;have HR:Hid (goW (pl ms) who follow slash i [p] hops=(⟨i,p,j,slash⟩,0)):=Lib.hid (by rw[go_spot H1.out H2.out (Int.not_lt.2 HNN.out) HN3 rfl (by rintro⟨_,h⟩;rw[HM.out]at h;exact h hk),HJ.out]);clear hk HN3;go_wp2_with fail;go_ret;exact HSET.out _ HR.out
    · have k1:(m.kind == 3)=true:=by rw[hk];rfl
      (have k2:(m.kind == 1)=false:=by rw[hk];rfl);(have k3:(m.kind == 2)=false:=by rw[hk];rfl);have HK3:Hid ((nodeL (pl ms) (lookL (pl ms) i p)).kind=3):=Lib.hid (by rw[HM.out,hk]);clear hk;by_cases hfs:follow=true∨slash=true
      · have hp:(∀(h5:([]:List Str)≠ []∨follow=true∨slash=true),True):=fun _=>trivial
        (have HHOP:=fun W5 (hb5:Below w4.heap.size w4 W5)=>hop_any b _ i _ [] hops _ m.data W5 (HW4.out.keep hb5) (by simp) hdj hh);have HH:=Lib.hid HHOP;clear HHOP hp
        have hs:slash=true∨(slash=false∧follow=true):=by
         cases slash
         · exact .inr ⟨rfl,by simpa using hfs⟩
         · exact .inl rfl
        clear hfs;rcases hs with hs | ⟨hs,hf⟩
        · subst hs
          go_wp2_with fail;refine fresh1 (P:=fun W=>Calls _ _ _ W _) ?_;intro W5 hb5 hn5 hs5;refine(HH.out W5 hb5).mono ?_;intro e w6 h;rw[←HM.out]at h;(have hst:=(step_hop H1.out H2.out (Int.not_lt.2 HNN.out) HK3.out (by simp) hh h).from (grown_bel (row:=some b) (ret_tr HB4.out hb5)));obtain⟨v6,rfl,_,hst⟩:=hst.ends;have HST:=Lib.hid hst;clear h hst;go_wp2_with fail;go_ret;exact HST.out
        · subst hs hf
          go_wp2_with fail;refine fresh1 (P:=fun W=>Calls _ _ _ W _) ?_;intro W5 hb5 hn5 hs5;refine(HH.out W5 hb5).mono ?_;intro e w6 h;rw[←HM.out]at h;(have hst:=(step_hop H1.out H2.out (Int.not_lt.2 HNN.out) HK3.out (by simp) hh h).from (grown_bel (row:=some b) (ret_tr HB4.out hb5)));obtain⟨v6,rfl,_,hst⟩:=hst.ends;have HST:=Lib.hid hst;clear h hst;go_wp2_with fail;go_ret;exact HST.out
      · have hs:slash=false:=by cases slash<;>simp_all
        (have hf:follow=false:=by cases follow<;>simp_all);subst hs hf;have HR:Hid (goW (pl ms) who false false i [p] hops=(⟨i,p,j,false⟩,0)):=Lib.hid (by rw[go_spot H1.out H2.out (Int.not_lt.2 HNN.out) (fun h=>by simp at h) rfl (by rintro⟨h,_⟩;cases h),HJ.out]);clear hfs HNE;go_wp2_with fail;go_ret;exact HSET.out _ HR.out
set_option maxRecDepth 100000 in
set_option maxHeartbeats 4000000 in
theorem enter_more (b:Nat)(F:WayF)(i:Int)(vl:Value)(p q:Str)(rest:List Str)(hops:Nat)(ms:List NodeM)(w:World)(hw:WayM b F i vl (q::rest) hops ⟨i,p,lookL (pl ms) i p,F.slash⟩ w)(hv:RdM w.heap.size F.nodes ms w)(hd:DskOk ms)
 (h1:dirE (pl ms) i=0) (h2:mayAt (pl ms) F.who i=true) (hh:hops≤8) (hdl : ∀n∈pl ms,n.data.length≤10000) (hrl:rest.length≤9999) :
 Calls Tryz.prog 218 #[.pointer (some ⟨b,0,none⟩), .int .i64 (lookL (pl ms) i p)] w fun e w'=>StepIs (pl ms) b F ((8-hops)*101+(q::rest).length+1) (goW (pl ms) F.who F.follow F.slash i (p::q::rest) hops) e w w':=by
 obtain⟨aod,capd,ed,_,_⟩:=rdm_form hv;obtain⟨aol,capl,el,_,_⟩:=hw.lft.form;obtain⟨nodes,most,room,who,follow,slash⟩:=F;dsimp only at ed hv h2 hw ⊢;subst ed;subst el;(have hlen:(((q::rest).length:Int) == 0)=false:=by rw[beq_eq_false_iff_ne,List.length_cons];omega);(have hl0:(q::rest).length≤10000:=by rw[List.length_cons];omega);have HW:=Lib.hid hw;have hbl:=hw.lt;obtain⟨c0,c1,c2,c3,c4,c5,c6,c7,c8,c9,c10,c11,c12⟩:=cells13 hw.blk;have HG:=Lib.hid (get_any _ ms most room (lookL (pl ms) i p) w hv hd.len hd.nms);have hlook:gotB (pl ms) (lookL (pl ms) i p)=true↔0≤lookL (pl ms) i p:=(look_got hd.right h1 p).trans (by omega);(have hkind:=fun h=>right_kind (i:=lookL (pl ms) i p) hd.right h);obtain⟨j,hj⟩ : ∃j,j=lookL (pl ms) i p:=⟨_,rfl⟩;have HJ:=Lib.hid hj;rw[←hj]at HG hlook hkind c11 ⊢;have H1:=Lib.hid h1;have H2:=Lib.hid h2;have HLK:=Lib.hid hlook;have HKD:=Lib.hid hkind;clear hj h1 h2 hw hlook hkind;go_enter Tryz.func218,Tryz.ntmps218;go_wp2_with fail;refine HG.out.mono ?_;rintro e w4 ⟨v4,rfl,hr4,hb4⟩;rw[getL_node]at hr4 ⊢;have hW4:=HW.out.keep hb4;have HW4:=Lib.hid hW4;have HB4:=Lib.hid hb4;obtain⟨ao4,cp4,e4,_,_⟩:=Rd.form hr4;have e4':v4 = .slice ao4 (nodeL (pl ms) j).names.length cp4:=e4;subst e4';clear c0 c1 c2 c3 c4 c5 c6 c7 c8 c9 c10 c11 c12 hr4 e4;obtain⟨c0,c1,c2,c3,c4,c5,c6,c7,c8,c9,c10,c11,c12⟩:=cells13 hW4.blk;have hbl4:=hW4.lt;have rf:=fun j'=>Lib.frozen_of_heap hW4.blk j'
 clear hW4 hb4
 cases hg:gotB (pl ms) j with
 | false =>
    have hneg:lookL (pl ms) i p<0:=by
     rw[←HJ.out];exact Decidable.byContradiction fun h=>by have:=HLK.out.2 (by omega);rw[hg]at this;cases this
    have HR:Hid (goW (pl ms) who follow slash i (p::q::rest) hops=(zeroS,2)):=Lib.hid (go_none2 H1.out H2.out hneg (by simp));clear hg hneg;go_wp2_with fail;refine fresh1 (P:=fun W=>bodyPost _ _ _ _ _ W) ?_;intro W5 hb5 hn5 hs5;go_ret;exact .inl ⟨2,HR.out,by decide,rfl,grown_bel (ret_tr HB4.out hb5)⟩
 | true =>
    (have hnn: ¬lookL (pl ms) i p<0:=by have:=HLK.out.1 hg;rw[←HJ.out];omega);have HNN:Hid (0≤lookL (pl ms) i p):=Lib.hid (by omega);have hk:=HKD.out hg
    have hdj:(nodeL (pl ms) j).data.length≤10000:=by
     obtain⟨k,rfl,hlt,hn,_,_⟩:=right_ok hd.right hg;rw[hn];exact hdl _ (List.getElem_mem hlt)
    have HG1:=Lib.hid hg;clear hg hnn;obtain⟨m,hm⟩ : ∃m,m=nodeL (pl ms) j:=⟨_,rfl⟩;have HM:Hid (nodeL (pl ms) (lookL (pl ms) i p)=m):=Lib.hid (by rw[←HJ.out,hm]);rw[←hm]at hk hdj ⊢;clear hm
    have hset : ∀(o:Obj),goW (pl ms) who follow slash i (p::q::rest) hops=goW (pl ms) who follow slash j (q::rest) hops →
     StepIs (pl ms) b ⟨.slice aod ms.length capd,most,room,who,follow,slash⟩ ((8-hops)*101+(q::rest).length+1) (goW (pl ms) who follow slash i (p::q::rest) hops) (.returned .nilIface) w ((w4.setCell ⟨b,6,none⟩ (.int .i64 j)).alloc o):=fun o hR =>
     .inr ⟨j,q::rest,hops,_,⟨_,rfl,(HW4.out.setAt j).keep ((Below.refl _ _).alloc (Nat.le_refl _) o),grown_al (grown_sc (grown_bel HB4.out) _) o⟩,by rw[hR];rfl,hh,by omega⟩
    have HSET:=Lib.hid hset;have HGt:=Lib.hid (show gotB (pl ms) (lookL (pl ms) i p)=true by rw[←HJ.out];exact HG1.out);clear hset;rcases hk with hk | hk | hk
    · have k1:(m.kind == 3)=false:=by rw[hk];rfl
      (have k2:(m.kind == 1)=true:=by rw[hk];rfl);have HR:Hid (goW (pl ms) who follow slash i (p::q::rest) hops=(zeroS,4)):=Lib.hid (go_stuck H1.out H2.out HGt.out (Int.not_lt.2 HNN.out) (by rw[HM.out,hk]));clear hk;go_wp2_with fail;refine fresh1 (P:=fun W=>bodyPost _ _ _ _ _ W) ?_;intro W5 hb5 hn5 hs5;go_ret;exact .inl ⟨4,HR.out,by decide,rfl,grown_bel (ret_tr HB4.out hb5)⟩
    · have k1:(m.kind == 3)=false:=by rw[hk];rfl
      (have k2:(m.kind == 1)=false:=by rw[hk];rfl);(have k3:(m.kind == 2)=true:=by rw[hk];rfl);have HR:Hid (goW (pl ms) who follow slash i (p::q::rest) hops=goW (pl ms) who follow slash j (q::rest) hops):=Lib.hid (by rw[go_on H1.out H2.out (Int.not_lt.2 HNN.out) (by rw[HM.out,hk];decide) (by simp),←HJ.out]);clear hk;go_wp2_with fail;go_ret;exact HSET.out _ HR.out
    · have k1:(m.kind == 3)=true:=by rw[hk];rfl
      have HK3:Hid ((nodeL (pl ms) (lookL (pl ms) i p)).kind=3):=Lib.hid (by rw[HM.out,hk]);clear hk;(have HHOP:=fun W5 (hb5:Below w4.heap.size w4 W5)=>hop_any b _ i _ (q::rest) hops _ m.data W5 (HW4.out.keep hb5) hl0 hdj hh);have HH:=Lib.hid HHOP;clear HHOP;go_wp2_with fail;refine fresh1 (P:=fun W=>Calls _ _ _ W _) ?_;intro W5 hb5 hn5 hs5;refine(HH.out W5 hb5).mono ?_;intro e w6 h;rw[←HM.out]at h;(have hst:=(step_hop H1.out H2.out (Int.not_lt.2 HNN.out) HK3.out (by simp) hh h).from (grown_bel (row:=some b) (ret_tr HB4.out hb5)));obtain⟨v6,rfl,_,hst⟩:=hst.ends;have HST:=Lib.hid hst;clear h hst;go_wp2_with fail;go_ret;exact HST.out
end Go.Proofs.YtmiekcdkamgknaaGreatDoor
