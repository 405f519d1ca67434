import Derived.Test.YtpbmbpefophlfaaGreatDoorR24
import Derived.Test.YtpbmbpefophlfaaGreatDoorR18
import Derived.Test.YtpbmbpefophlfaaGreatDoorR17
import Derived.Test.YtpbmbpefophlfaaGreatDoorR20
import Derived.Deep.RegionHeld3
import Derived.Test.YtpbmbpefophlfaaGreatDoorR21
import Derived.Deep.DeepCutAuto
namespace Go.Proofs.YtpbmbpefophlfaaGreatDoor
structure OpnW (l:List NodeL) (most room:Int) (f:Int→Nat):Prop where
 disk:rightR l most room=true
 got : ∀j:Int,0<f j→gotB l j=true
 opn : ∀j:Nat,(nd l j).kind≠0→(nd l j).opn=f j
theorem atN_kind {i:Nat}{n:NodeL}{b:Int}(h:0<n.opn+b):(atN i n b).kind=n.kind∧(atN i n b).opn=n.opn+b:=by
 unfold atN;rw[if_neg (by omega)];exact⟨rfl,rfl⟩
theorem OpnW.move {l:List NodeL}{most room:Int}{f g:Int→Nat}(h:OpnW l most room f){i:Nat}(hik:(nd l i).kind≠0){b:Int}(hg : ∀j:Int,(g j:Int)=f j+if j=i then b else 0) :
 OpnW (openedL l (i:Int) b) most room g∧∀j:Nat,(nd l j).kind≠0→0<g j→(nd (openedL l (i:Int) b) j).kind=(nd l j).kind:=by
 have hi:=h.opn i hik;have hgi:=hg i;rw[if_pos rfl]at hgi
 have hkind : ∀j:Nat,(nd l j).kind≠0→0<g j→(nd (openedL l (i:Int) b) j).kind=(nd l j).kind:=fun j hj hpos=>by
  rw[opened_nd hik];split
  · rename_i e
    subst e;exact(atN_kind (by omega)).1
  · rfl
 refine⟨⟨opened_right h.disk hik (by omega),fun j hj=> ?_,fun j hj=> ?_⟩,hkind⟩
 · have hold:gotB l j=true:=by
    by_cases e:j=i
    · rw[e];exact(got_nd l i).2 hik
    · refine h.got j ?_
      have:=hg j;rw[if_neg e]at this;omega
   obtain⟨n,rfl,_,hn⟩:=got_nat hold;rw[got_nd,hkind n hn hj];exact hn
 · rw[opened_nd hik]at hj ⊢
   split
   · rename_i e
     subst e;rw[if_pos rfl]at hj;unfold atN at hj ⊢;split
     · rename_i hc;rw[if_pos hc]at hj;exact absurd rfl hj
     · show(nd l j).opn+b=_
       omega
   · rename_i e
     rw[if_neg e]at hj;have:=hg j;rw[if_neg (by omega)]at this;rw[h.opn j hj];omega
theorem RigK.w {k:KernL}(h:RigK k):OpnW k.l k.most k.room (opensN k):=by
 refine⟨h.disk,fun j hj=> ?_,h.opn⟩;unfold opensN at hj;by_cases hd:0<opensD k.t.ds j
 · obtain⟨d,hdm,hr,rfl⟩:=opensD_pos.1 hd
   exact h.ino d hdm hr
 · obtain⟨x,hx,hl,rfl⟩:=opensP_pos.1 (show 0<opensP k.ps j by omega)
   obtain⟨p,hp,rfl⟩:=List.mem_iff_getElem.1 hx;obtain⟨e1,e2⟩:=live_at hp;obtain⟨n,hn,h2,_⟩:=h.cwd_open (p:=(p:Int)) (by rw[e1];exact hl);rw[←e2,hn,got_nd,h2];decide
theorem rig_w {k:KernL}(w:OpnW k.l k.most k.room (opensN k))(tab:RightT k.t)(eight:k.t.fs.length=8)(procs:k.ps.length≤8)(idle : ∀p:Nat,p<8→liveB k.ps p=false→countT k.t p=0)
 (cwd : ∀p:Nat,liveB k.ps p=true→(nodeL k.l (procL k.ps p).cwd).kind=2∧0≤(procL k.ps p).umask∧(procL k.ps p).umask≤63):RigK k :=
  ⟨w.disk,tab,eight,procs,idle,cwd,fun d hd hr=>w.got _ (by have:=opensD_pos.2 ⟨d,hd,hr,rfl⟩;unfold opensN;omega),w.opn⟩
theorem live_pos {k:KernL}{p:Int}(hl:liveB k.ps p=true){j:Int}(hj:(procL k.ps p).cwd=j):0<opensP k.ps j:=by
 obtain⟨a,ha,rfl,e,h1⟩:=live_in hl;exact opensP_pos.2 ⟨k.ps[a],List.getElem_mem ha,h1,by rw[←e];exact hj⟩
theorem right_tabs {k:KernL}(h:RigK k){t':TabL}(hr:RightT t')(h8:t'.fs.length=8)(hi : ∀q:Nat,q<8→liveB k.ps q=false→countT t' q=0)(ho : ∀j:Int,opensD t'.ds j=opensD k.t.ds j):RigK (withT k t'):=by
 (have e:opensN (withT k t')=opensN k:=funext fun j=>by unfold opensN;rw[show(withT k t').t.ds=t'.ds from rfl,ho];rfl);refine rig_w ?_ hr h8 h.procs hi h.cwd;rw[e];exact h.w
theorem RigK.in_live {k:KernL}(h:RigK k){p:Int}(hl:liveB k.ps p=true):inT k.t p=true:=by
 obtain⟨a,ha,rfl,_,_⟩:=live_in hl;exact in_natT (by have:=h.procs;have:=h.eight;omega)
theorem live_ne {ps:List ProcL}{p:Int}{q:Nat}(h:liveB ps p=true)(h2:liveB ps (q:Int)=false):p≠(q:Int):=by
 rintro rfl;rw[h]at h2
 cases h2
theorem right_shut {k:KernL}(h:RigK k){p:Int}(hl:liveB k.ps p=true)(fd:Int):RigK (shutK k p fd).1:=by
 unfold shutK;split
 · exact h
 · rename_i h0
   have h0:(closeT k.t p fd).2.2=0:=Decidable.of_not_not h0;obtain⟨hh,hx,ho⟩:=opens_close h.tab h0;have h8:=((other_closeT h0 (q:=p+1) (by omega) (by obtain⟨a,_,rfl,_⟩:=live_in hl;omega)).2).trans h.eight;(have hi : ∀q:Nat,q<8→liveB k.ps q=false→countT (closeT k.t p fd).1 q=0:=fun q hq hlq=>((other_closeT h0 (live_ne hl hlq) (by omega)).1).trans (h.idle q hq hlq));obtain⟨a,ha,e1,e2,h2⟩:=has_desc h.tab hh;by_cases hz:(closeT k.t p fd).2.1.refs=0
   · show RigK ⟨if(closeT k.t p fd).2.1.refs=0 then openedL k.l (closeT k.t p fd).2.1.ino (-1)else k.l,k.most,k.room,(closeT k.t p fd).1,k.ps⟩
     rw[if_pos hz];obtain⟨i,hj,hk,_⟩:=h.desc_open (List.getElem_mem ha) (by omega);(have hxi:(closeT k.t p fd).2.1.ino=i:=by rw[hx,e2];exact hj);rw[hxi]
     obtain⟨w,hkk⟩:=h.w.move (g:=opensN ⟨openedL k.l (i:Int) (-1),k.most,k.room,(closeT k.t p fd).1,k.ps⟩) hk (b:= -1) (fun j=>by
      unfold opensN;show((opensD (closeT k.t p fd).1.ds j+opensP k.ps j:Nat):Int)=_;have:=ho j;rw[hz,hxi]at this;by_cases e:j=(i:Int)
      · rw[if_pos e];rw[if_pos ⟨rfl,e.symm⟩]at this;omega
      · rw[if_neg e];rw[if_neg (fun h=>e h.2.symm)]at this;omega)
     refine rig_w w (right_close h.tab p fd) h8 h.procs hi (fun q hlq=> ?_);obtain⟨j,hj,h2,_⟩:=h.cwd_open hlq;refine⟨?_,(h.cwd q hlq).2⟩;have:=hkk j (by rw[h2];decide) (by have h9:=live_pos (k:=k) hlq hj;unfold opensN;show 0<_+opensP k.ps (j:Int);omega);show(nodeL (openedL k.l (i:Int) (-1)) (procL k.ps q).cwd).kind=2;rw[hj,nodeL_nd (by rw[this,h2];decide),this,h2]
   · show RigK ⟨if(closeT k.t p fd).2.1.refs=0 then openedL k.l (closeT k.t p fd).2.1.ino (-1)else k.l,k.most,k.room,(closeT k.t p fd).1,k.ps⟩
     rw[if_neg hz];(refine right_tabs h (right_close h.tab p fd) h8 hi fun j=> ?_);have:=ho j;rw[if_neg (fun h=>hz h.1)]at this;omega
def Kd (n:Int):Prop:=n=2
end Go.Proofs.YtpbmbpefophlfaaGreatDoor
namespace Go.Proofs.YtpbmbpefophlfaaGreatDoor
section
variable (l:List NodeL) (most room who fr:Int) (path:Str)
theorem enter_err (s:SpotL)(n:NodeL)(h:(enterL l most room who s n).2.2≠0):(enterL l most room who s n).1=l:=by
 unfold enterL at h ⊢;split
 · rfl
 · split
   · rfl
   · rename_i h1 h2;rw[if_neg h1,if_neg h2]at h;exact absurd rfl h
theorem mkdir_err (mode:Int)(h:(mkdirL l most room who fr path mode).2≠0):(mkdirL l most room who fr path mode).1=l:=by
 unfold mkdirL at h ⊢;split
 · rfl
 · rename_i h1;rw[if_neg h1]at h;exact enter_err _ _ _ _ _ _ h
theorem symlink_err (text:Str)(h:(symlinkL l most room who fr text path).2≠0):(symlinkL l most room who fr text path).1=l:=by
 unfold symlinkL at h ⊢;split;rfl;split;rfl;split;rfl;split;rfl;rename_i h1 h2 h3 h4;rw[if_neg h1,if_neg h2,if_neg h3,if_neg h4]at h;exact enter_err _ _ _ _ _ _ h
theorem link_err (old:Str)(h:(linkL l who fr old path).2≠0):(linkL l who fr old path).1=l:=by
 unfold linkL at h ⊢;split;rfl;split;rfl;split;rfl;split;rfl;split;rfl;rename_i h1 h2 h3 h4 h5;rw[if_neg h1,if_neg h2,if_neg h3,if_neg h4,if_neg h5]at h;exact absurd rfl h
theorem unlink_err (h:(unlinkL l who fr path).2≠0):(unlinkL l who fr path).1=l:=by
 unfold unlinkL at h ⊢;split;rfl;split;rfl;split;rfl;rename_i h1 h2 h3;rw[if_neg h1,if_neg h2,if_neg h3]at h;exact absurd rfl h
theorem rmdir_err (h:(rmdirL l who fr path).2≠0):(rmdirL l who fr path).1=l:=by
 unfold rmdirL at h ⊢;split;rfl;split;rfl;rename_i h1 h2;rw[if_neg h1,if_neg h2]at h;exact absurd rfl h
theorem rename_err (who2 fr2:Int)(old:Str)(h:(renameL l who fr who2 fr2 old path).2≠0):(renameL l who fr who2 fr2 old path).1=l:=by
 unfold renameL at h ⊢;split;rfl;split;rfl;split;rfl;split;rfl;rename_i h1 h2 h3 h4;rw[if_neg h1,if_neg h2,if_neg h3,if_neg h4]at h;exact absurd rfl h
theorem chmod_err (mode:Int)(h:(chmodL l who fr path mode).2≠0):(chmodL l who fr path mode).1=l:=by
 unfold chmodL at h ⊢;split;rfl;split;rfl;rename_i h1 h2;rw[if_neg h1,if_neg h2]at h;exact absurd rfl h
end
theorem change_err (k:KernL)(who umask fr:Int)(c:CallL)(h:(changeL k who umask fr c).2≠0):(changeL k who umask fr c).1=k.l:=by
 unfold changeL at h ⊢
 split;· rename_i h1;rw[if_pos h1]at h;exact mkdir_err _ _ _ _ _ _ _ h
 rename_i h1;rw[if_neg h1]at h
 split;· rename_i h1;rw[if_pos h1]at h;exact rmdir_err _ _ _ _ h
 rename_i h1;rw[if_neg h1]at h
 split;· rename_i h1;rw[if_pos h1]at h;exact unlink_err _ _ _ _ h
 rename_i h1;rw[if_neg h1]at h
 split;· rename_i h1;rw[if_pos h1]at h;exact link_err _ _ _ _ _ h
 rename_i h1;rw[if_neg h1]at h
 split;· rename_i h1;rw[if_pos h1]at h;exact symlink_err _ _ _ _ _ _ _ h
 rename_i h1;rw[if_neg h1]at h
 split;· rename_i h1;rw[if_pos h1]at h;exact chmod_err _ _ _ _ _ h
 rfl
def Whole (k:KernL)(R:DoL):Prop:=R.2.e≠0→R.1=k∧R.2=errR R.2.e
theorem Whole.err (k:KernL)(e:Int):Whole k (k,errR e):=fun _=>⟨rfl,rfl⟩
theorem Whole.ok {k:KernL}{R:DoL}(h:R.2.e=0):Whole k R:=fun h2=>absurd h h2
theorem whole_at (k:KernL)(p flags:Int)(l:List NodeL)(i e:Int):Whole k (openAt k p flags l i e):=by
 unfold openAt;split
 · exact Whole.err k _
 · exact Whole.ok rfl
theorem whole_open (k:KernL)(p:Int)(c:CallL):Whole k (openK k p c):=by
 unfold openK;split;exact Whole.err k _;split;exact Whole.err k _;split;exact Whole.err k _;unfold openFrom;split;exact Whole.err k _;split
 · unfold openNew
   split;exact Whole.err k _;split;exact Whole.err k _;exact whole_at _ _ _ _ _ _
 · exact whole_at _ _ _ _ _ _
theorem whole_do (k:KernL)(p:Int)(c:CallL):Whole k (doK k p c):=by
 unfold doK;split;exact Whole.err k _;split;exact whole_open k p c;split
 · unfold shutK
   split;exact Whole.err k _;exact Whole.ok rfl
 split
 · unfold descK
   split;exact Whole.err k _;split
   · unfold readK
     split;exact Whole.err k _;exact Whole.ok rfl
   split
   · unfold writeK
     split;exact Whole.err k _;exact Whole.ok rfl
   split
   · unfold listK
     split;exact Whole.err k _;exact Whole.ok rfl
   split
   · unfold flockK
     split;exact Whole.err k _;exact Whole.ok rfl
   unfold dupK;split;exact Whole.err k _;exact Whole.ok rfl
 split
 · unfold renamedK
   split;exact Whole.err k _;split;exact Whole.err k _;intro h;refine⟨?_,rfl⟩;show withD k _=k;rw[rename_err _ _ _ _ _ _ _ h];rfl
 split
 · unfold lookedK
   split;exact Whole.err k _;split;exact Whole.err k _;unfold lookAt;split;exact Whole.ok rfl;split;exact Whole.err k _;split;exact Whole.ok rfl;split;exact Whole.err k _;split;exact Whole.err k _;exact Whole.ok rfl
 unfold changedK;split;exact Whole.err k _;intro h;refine⟨?_,rfl⟩;show withD k _=k;rw[change_err _ _ _ _ _ h];rfl
def NamC (c:Nat)(l:List NodeL):Prop:=∀n∈l,n.names.length≤c
theorem NamC.mono {c c':Nat}{l:List NodeL}(h:NamC c l)(hc:c≤c'):NamC c' l:=fun n hn=>Nat.le_trans (h n hn) hc
theorem NamC.node {c:Nat}{l:List NodeL}(h:NamC c l)(i:Int):(nodeL l i).names.length≤c:=by
 unfold nodeL atI;split
 · rw[List.getD_eq_getElem?_getD]
   rcases Nat.lt_or_ge i.toNat l.length with hi | hi
   · rw[List.getElem?_eq_getElem hi];exact h _ (List.getElem_mem hi)
   · rw[List.getElem?_eq_none hi];exact Nat.zero_le _
 · exact Nat.zero_le _
theorem NamC.set {c:Nat}{l:List NodeL}(h:NamC c l){n:NodeL}(hn:n.names.length≤c)(i:Int):NamC c (setL l i n):=by
 unfold setL;split
 · intro m hm
   rcases List.mem_or_eq_of_mem_set hm with hm | rfl
   · exact h m hm
   · exact hn
 · exact h
theorem NamC.settle {c:Nat}{l:List NodeL}(h:NamC c l)(i:Int):NamC c (settleL l i):=by
 unfold settleL;split
 · exact h.set (Nat.zero_le _) i
 · exact h
theorem NamC.opened {c:Nat}{l:List NodeL}(h:NamC c l)(i b:Int):NamC c (openedL l i b):=(h.set (n:=opnN (nodeL l i) b) (h.node i) i).settle i
theorem NamC.add {c:Nat}{l:List NodeL}(h:NamC c l){n:NodeL}(hn:n.names.length≤c)(most room:Int):NamC c (addL l most room n):=by
 unfold addL;split
 · exact h
 · split
   · intro m hm
     rcases List.mem_append.1 hm with hm | hm
     · exact h m hm
     · obtain rfl:=List.mem_singleton.1 hm
       exact hn
   · intro m hm
     rcases List.mem_or_eq_of_mem_set hm with hm | rfl
     · exact h m hm
     · exact hn
def KrnS (c:Nat)(k:KernL):Prop:=k.most≤100∧k.room≤1000∧NamC c k.l∧k.t.ds.length≤c
theorem KrnS.mono {c c':Nat}{k:KernL}(h:KrnS c k)(hc:c≤c'):KrnS c' k:=⟨h.1,h.2.1,h.2.2.1.mono hc,Nat.le_trans h.2.2.2 hc⟩
theorem small_right {c:Nat}{k:KernL}(h:RigK k)(hs:KrnS c k):k.l.length≤100∧∀n∈k.l,n.data.length≤1000∧n.names.length≤c:=by
 obtain⟨hR,h0,hl,hb⟩:=(right_iff _ _ _).1 h.disk;have h1:=hs.1;have h2:=hs.2.1;refine⟨by omega,fun n hn=>⟨?_,hs.2.2.1 n hn⟩⟩;obtain⟨i,hi,rfl⟩:=List.mem_iff_getElem.1 hn;rw[←nd_lt hi];by_cases hk:(nd k.l i).kind=0
 · rw[hR.zero i hk];exact Nat.zero_le _
 · by_cases h2:(nd k.l i).kind=2
   · rw[(hR.loc i hk).2.2.1 h2];exact Nat.zero_le _
   · have hp:=(hR.loc i hk).1
     unfold plainB at hp;simp only[Bool.and_eq_true,decide_eq_true_iff]at hp
     have hw:weightL (nd k.l i)=(nd k.l i).data.length:=by
      unfold weightL;rw[if_pos (by omega)]
     have:=bytes_set hi zeroN;have hz:weightL zeroN=0:=rfl;omega
end Go.Proofs.YtpbmbpefophlfaaGreatDoor
namespace Go.Proofs.YtpbmbpefophlfaaGreatDoor
open Go.RowKit Go.Shelf
attribute [local go_sem ↓] Go.wp_at_zero Go.wp_at_succ
theorem th3 {X:Nat→Prop}{w:World}{P Q R:Thing}(f:Firm P)(h:P X w)(g:Firm Q)(k:Q X w)(e:Firm R)(m:R X w) : ∀S∈ [P,Q,R],Firm S∧S X w:=fun S hS=>by
 simp only[List.mem_cons,List.not_mem_nil,or_false]at hS;rcases hS with rfl | rfl | rfl
 · exact⟨f,h⟩
 · exact⟨g,k⟩
 · exact⟨e,m⟩
theorem results_cc {P:Program}{fn:Func}{p q:Tmp}{ty ty2:TypeId}(h:fn.results = #[.cell p ty, .cell q ty2])(tmps:Array Value)(w:World)(g g2:Nat)(t t2:TypeId)(cs cs2:Array Value)(fr fr2:Nat × Nat)(d d2:TypeDesc)
 (hp:tmps.getD p undef = .pointer (some ⟨g,0,none⟩)) (hg:w.heap[g]? = some (.cells cs t fr)) (hq:tmps.getD q undef = .pointer (some ⟨g2,0,none⟩)) (hg2:w.heap[g2]? = some (.cells cs2 t2 fr2))
 (hu:P.underlying ty=some d) (hd:(match d with | .struct _ | .array _ _=>true | _=>false)=true) (hi:(P.info? ty).map (·.size)=some cs.size)
 (hu2:P.underlying ty2=some d2) (hd2:(match d2 with | .struct _ | .array _ _=>true | _=>false)=true) (hi2:(P.info? ty2).map (·.size)=some cs2.size) :
 (results fn tmps).run P w = .ok (.tuple #[.agg cs, .agg cs2]) w:=by
  (have hp':tmps[p]?.getD undef = .pointer (some ⟨g,0,none⟩):=by simpa using hp);(have hq':tmps[q]?.getD undef = .pointer (some ⟨g2,0,none⟩):=by simpa using hq);simp[results,h,hp',hq',asAddr,run_loadVar_row w g t ty cs fr d hg hu hd hi,run_loadVar_row w g2 t2 ty2 cs2 fr2 d2 hg2 hu2 hd2 hi2,Result.andThen]
theorem k_disk {W:World}{b:Nat}{v0 v1 v2 v3 v4 v5:Value}{t:TypeId}{f:Nat × Nat}(h:W.heap[b]? = some (.cells #[v0,v1,v2,v3,v4,v5] t f)):W.rangeAt b 0 [v0,v1,v2]:=fun j v hv=>by
 rw[Lib.cell_of_heap h]
 match j with
 | 0=>simpa using hv
 | 1=>simpa using hv
 | 2=>simpa using hv
 | j+3=>simp at hv
theorem k_tab {W:World}{b:Nat}{v0 v1 v2 v3 v4 v5:Value}{t:TypeId}{f:Nat × Nat}(h:W.heap[b]? = some (.cells #[v0,v1,v2,v3,v4,v5] t f)):W.rangeAt b 3 [v3,v4]:=fun j v hv=>by
 rw[Lib.cell_of_heap h]
 match j with
 | 0=>simpa using hv
 | 1=>simpa using hv
 | j+2=>simp at hv
def NodeTh (n:NodeL)(v:Value):Thing:=fun X W=>NodeX X n v W
theorem NodeTh.firm (n:NodeL)(v:Value):Firm (NodeTh n v):=⟨fun h hb hY=>NodeX.add h hb hY,fun h hX hs hg=>NodeX.other h hX hs hg⟩
end Go.Proofs.YtpbmbpefophlfaaGreatDoor
namespace Go.Proofs.YtpbmbpefophlfaaGreatDoor
def SeenN (m n:NodeL):Prop:=m.kind=n.kind∧m.mode=n.mode∧m.owner=n.owner∧m.up=n.up∧m.names=n.names∧(n.kind=3→m.data=n.data)
theorem SeenN.rfl' (n:NodeL):SeenN n n:=⟨rfl,rfl,rfl,rfl,rfl,fun _=>rfl⟩
def SameW (l l':List NodeL):Prop:=∀j:Nat,SeenN (nd l' j) (nd l j)
theorem SameW.rfl' (l:List NodeL):SameW l l:=fun _=>SeenN.rfl' _
theorem SameW.trans {a b c:List NodeL}(h1:SameW a b)(h2:SameW b c):SameW a c:=fun j=>by
 obtain⟨a1,a2,a3,a4,a5,a6⟩:=h1 j;obtain⟨b1,b2,b3,b4,b5,b6⟩:=h2 j;exact⟨b1.trans a1,b2.trans a2,b3.trans a3,b4.trans a4,b5.trans a5,fun h=>(b6 (a1.trans h)).trans (a6 h)⟩
theorem nodeL_cases (l:List NodeL)(i:Int):(∃j:Nat,i=j∧(nd l j).kind≠0∧nodeL l i=nd l j)∨(gotB l i=false∧nodeL l i=zeroN):=by
 cases h:gotB l i with
 | true =>
    obtain⟨j,rfl,_,hk⟩:=got_nat h;exact .inl ⟨j,rfl,hk,nodeL_nd hk⟩
 | false=>exact .inr ⟨rfl,by unfold nodeL;rw[h];rfl⟩
theorem SameW.got {l l':List NodeL}(h:SameW l l')(i:Int):gotB l' i=gotB l i:=by
 rw[Bool.eq_iff_iff];constructor
 · intro hg
   obtain⟨j,rfl,_,hk⟩:=got_nat hg;rw[got_nd,←(h j).1];exact hk
 · intro hg
   obtain⟨j,rfl,_,hk⟩:=got_nat hg;rw[got_nd,(h j).1];exact hk
theorem SameW.node {l l':List NodeL}(h:SameW l l')(i:Int):SeenN (nodeL l' i) (nodeL l i):=by
 rcases nodeL_cases l i with⟨j,rfl,hk,e⟩ | ⟨hg,e⟩
 · rw[e,nodeL_nd (by rw[(h j).1];exact hk)]
   exact h j
 · rw[e]
   unfold nodeL;rw[h.got,hg];exact SeenN.rfl' _
theorem SameW.dir {l l':List NodeL}(h:SameW l l')(i:Int):dirE l' i=dirE l i:=by
 unfold dirE;rw[h.got,(h.node i).1]
theorem opened_seen {l:List NodeL}{i:Nat}(hik:(nd l i).kind≠0){b:Int}(hb:i=0∨0<(nd l i).links∨0<(nd l i).opn+b):SameW l (openedL l (i:Int) b):=fun j=>by
 rw[opened_nd hik];split
 · rename_i e
   subst e;unfold atN;rw[if_neg (by omega)];exact⟨rfl,rfl,rfl,rfl,rfl,fun _=>rfl⟩
 · exact SeenN.rfl' _
end Go.Proofs.YtpbmbpefophlfaaGreatDoor
namespace Go.Proofs.YtpbmbpefophlfaaGreatDoor
open Go.RowKit Go.Shelf
attribute [local go_sem ↓] Go.wp_at_zero Go.wp_at_succ
theorem cells9 {W:World}{b:Nat}{u0 u1 u2 u3 u4 u5 u6 u7 u8:Value}{t:TypeId}{f:Nat × Nat}(h:W.heap[b]? = some (.cells #[u0,u1,u2,u3,u4,u5,u6,u7,u8] t f)) :
 W.cell? ⟨b,0,none⟩=some u0∧W.cell? ⟨b,1,none⟩=some u1∧W.cell? ⟨b,2,none⟩=some u2∧W.cell? ⟨b,3,none⟩=some u3∧W.cell? ⟨b,4,none⟩=some u4∧W.cell? ⟨b,5,none⟩=some u5∧W.cell? ⟨b,6,none⟩=some u6∧W.cell? ⟨b,7,none⟩=some u7∧W.cell? ⟨b,8,none⟩=some u8:=by
 refine⟨?_,?_,?_,?_,?_,?_,?_,?_,?_⟩<;>(rw[Lib.cell_of_heap h];rfl)
theorem shut_no {k:KernL}{p fd:Int}(h:(closeT k.t p fd).2.2≠0):shutK k p fd=(k,errR (closeT k.t p fd).2.2):=if_pos h
theorem shut_last {k:KernL}{p fd:Int}(h:(closeT k.t p fd).2.2=0)(h2:(closeT k.t p fd).2.1.refs=0):shutK k p fd=(⟨openedL k.l (closeT k.t p fd).2.1.ino (-1),k.most,k.room,(closeT k.t p fd).1,k.ps⟩,errR 0):=by unfold shutK;rw[if_neg (by rw[h];decide),if_pos h2]
theorem shut_more {k:KernL}{p fd:Int}(h:(closeT k.t p fd).2.2=0)(h2:(closeT k.t p fd).2.1.refs≠0):shutK k p fd=(⟨k.l,k.most,k.room,(closeT k.t p fd).1,k.ps⟩,errR 0):=by unfold shutK;rw[if_neg (by rw[h];decide),if_neg h2]
structure KrnOk (k:KernL):Prop where
 rig:RigK k
 siz:KrnS 120 k
 dsk:Dsk k.l
theorem KrnOk.len {k:KernL}(h:KrnOk k):k.l.length≤10000:=Nat.le_trans h.dsk.sm.1 (by decide)
theorem KrnOk.size {k:KernL}(h:KrnOk k):SizeT k.t:=by
 have h8:=h.rig.eight;have hd:=h.siz.2.2.2;exact⟨by omega,by omega,fun r hr=>by have:=(h.rig.tab.1 r hr).1;omega⟩
theorem KrnOk.opn {k:KernL}(h:KrnOk k)(i b:Int)(hb : -1≤b∧b≤1):IntKind.i64.wrap ((nodeL k.l i).opn+b)=(nodeL k.l i).opn+b:=by
 have hle:0≤(nodeL k.l i).opn∧(nodeL k.l i).opn≤1000:=by
  rcases nodeL_cases k.l i with⟨j,rfl,hk,e⟩ | ⟨_,e⟩
  · rw[e,h.rig.opn j hk]
    have h1:opensD k.t.ds (j:Int)≤k.t.ds.length:=List.countP_le_length;have h2:opensP k.ps (j:Int)≤k.ps.length:=List.countP_le_length;have h3:=h.siz.2.2.2;have h4:=h.rig.procs;unfold opensN;omega
  · rw[e];exact⟨Int.le_refl 0,by decide⟩
 exact Go.IntWalk.i64_in _ (by omega)
end Go.Proofs.YtpbmbpefophlfaaGreatDoor
namespace Go.Proofs.YtpbmbpefophlfaaGreatDoor
open Go.RowKit Go.Shelf
attribute [local go_sem ↓] Go.wp_at_zero Go.wp_at_succ
section
variable {ps:List ProcL} {X:Nat→Prop} {W:World} {b off cp:Nat}
theorem PsX.c0 (h:PsX ps (.slice (some ⟨b,off,none⟩) ps.length cp) X W)(a:Nat)(ha:a<ps.length):W.cell? ⟨b,off+a*4,none⟩=some (.int .i64 (ps[a]).who):=by
 obtain⟨b',o',e,c0,_⟩:=h.proc a ha;injection e with e;injection e with e1 e2 _;subst e1;subst e2;exact c0
theorem PsX.c1 (h:PsX ps (.slice (some ⟨b,off,none⟩) ps.length cp) X W)(a:Nat)(ha:a<ps.length):W.cell? ⟨b,off+a*4+1,none⟩=some (.int .i64 (ps[a]).umask):=by
 obtain⟨b',o',e,_,c1,_⟩:=h.proc a ha;injection e with e;injection e with e1 e2 _;subst e1;subst e2;exact c1
theorem PsX.c2 (h:PsX ps (.slice (some ⟨b,off,none⟩) ps.length cp) X W)(a:Nat)(ha:a<ps.length):W.cell? ⟨b,off+a*4+2,none⟩=some (.int .i64 (ps[a]).cwd):=by
 obtain⟨b',o',e,_,_,c2,_⟩:=h.proc a ha;injection e with e;injection e with e1 e2 _;subst e1;subst e2;exact c2
end
end Go.Proofs.YtpbmbpefophlfaaGreatDoor
namespace Go.Proofs.YtpbmbpefophlfaaGreatDoor
open Go.RowKit Go.Shelf
attribute [local go_sem ↓] Go.wp_at_zero Go.wp_at_succ
theorem infoProcR:(Tryz.prog.info? 79).map (fun i=>(i.zero,i.size,i.bytes))=some (some (.agg #[.int .i64 0, .int .i64 0, .int .i64 0, .bool false]),4,32):=by kernel_rfl
theorem Sf.rdx {X:Nat→Prop}{w W:World}{B:List Bl}{G:List Thing}(h:Sf X w B G W){e:TypeId}{s n:Nat}{v:Value}{xs:List Value}(ho:W.ownsRow w.heap.size e s v n xs)(hne:(B.map (·.2.2)).contains e=false):RdX s v n xs (Xo X (B.map (·.1))) W :=
 ⟨Rd.own ho (Nat.le_refl _),fun g hg=>by
  rcases hg with hg | hg
  · exact own_far ho (h.old g hg)
  · obtain⟨x,hx,rfl⟩:=List.mem_map.1 hg
    intro a n' c ev _ hb
    exact h.apart ho hne a.block (by rw[ev];rfl) x hx hb.symm⟩
end Go.Proofs.YtpbmbpefophlfaaGreatDoor
