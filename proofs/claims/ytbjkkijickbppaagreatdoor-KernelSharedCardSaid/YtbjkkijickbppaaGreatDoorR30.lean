import Derived.Test.YtbjkkijickbppaaGreatDoorR29
import Derived.Test.YtbjkkijickbppaaGreatDoorR28
import Derived.Test.YtbjkkijickbppaaGreatDoorR17
import Derived.Test.YtbjkkijickbppaaGreatDoorR25
import Derived.Deep.RegionHeld3
import Derived.Test.YtbjkkijickbppaaGreatDoorR26
import Derived.Deep.DeepCutAuto
namespace Go.Proofs.YtbjkkijickbppaaGreatDoor
section
variable (l:List NodeL) (most room who fr:Int) (path:Str)
theorem enter_err (s:SpotL)(n:NodeL)(h:(enterL l most room who s n).2.2≠0):(enterL l most room who s n).1=l:=by
 unfold enterL at h ⊢;split
 · rfl
 · split
   · rfl
   · rename_i h1 h2;rw[if_neg h1,if_neg h2]at h;exact absurd rfl h
theorem mkdir_err (mode:Int)(h:(mkdirL l most room who fr path mode).2≠0):(mkdirL l most room who fr path mode).1=l:=by
 unfold mkdirL at h ⊢;split
 · rfl
 · rename_i h1;rw[if_neg h1]at h;exact enter_err _ _ _ _ _ _ h
theorem symlink_err (text:Str)(h:(symlinkL l most room who fr text path).2≠0):(symlinkL l most room who fr text path).1=l:=by
 unfold symlinkL at h ⊢;split;rfl;split;rfl;split;rfl;split;rfl;rename_i h1 h2 h3 h4;rw[if_neg h1,if_neg h2,if_neg h3,if_neg h4]at h;exact enter_err _ _ _ _ _ _ h
theorem link_err (old:Str)(h:(linkL l who fr old path).2≠0):(linkL l who fr old path).1=l:=by
 unfold linkL at h ⊢;split;rfl;split;rfl;split;rfl;split;rfl;split;rfl;rename_i h1 h2 h3 h4 h5;rw[if_neg h1,if_neg h2,if_neg h3,if_neg h4,if_neg h5]at h;exact absurd rfl h
theorem unlink_err (h:(unlinkL l who fr path).2≠0):(unlinkL l who fr path).1=l:=by
 unfold unlinkL at h ⊢;split;rfl;split;rfl;split;rfl;rename_i h1 h2 h3;rw[if_neg h1,if_neg h2,if_neg h3]at h;exact absurd rfl h
theorem rmdir_err (h:(rmdirL l who fr path).2≠0):(rmdirL l who fr path).1=l:=by
 unfold rmdirL at h ⊢;split;rfl;split;rfl;rename_i h1 h2;rw[if_neg h1,if_neg h2]at h;exact absurd rfl h
theorem rename_err (who2 fr2:Int)(old:Str)(h:(renameL l who fr who2 fr2 old path).2≠0):(renameL l who fr who2 fr2 old path).1=l:=by
 unfold renameL at h ⊢;split;rfl;split;rfl;split;rfl;split;rfl;rename_i h1 h2 h3 h4;rw[if_neg h1,if_neg h2,if_neg h3,if_neg h4]at h;exact absurd rfl h
theorem chmod_err (mode:Int)(h:(chmodL l who fr path mode).2≠0):(chmodL l who fr path mode).1=l:=by
 unfold chmodL at h ⊢;split;rfl;split;rfl;rename_i h1 h2;rw[if_neg h1,if_neg h2]at h;exact absurd rfl h
end
theorem change_err (k:KernL)(who umask fr:Int)(c:CallL)(h:(changeL k who umask fr c).2≠0):(changeL k who umask fr c).1=k.l:=by
 unfold changeL at h ⊢
 split;· rename_i h1;rw[if_pos h1]at h;exact mkdir_err _ _ _ _ _ _ _ h
 rename_i h1;rw[if_neg h1]at h
 split;· rename_i h1;rw[if_pos h1]at h;exact rmdir_err _ _ _ _ h
 rename_i h1;rw[if_neg h1]at h
 split;· rename_i h1;rw[if_pos h1]at h;exact unlink_err _ _ _ _ h
 rename_i h1;rw[if_neg h1]at h
 split;· rename_i h1;rw[if_pos h1]at h;exact link_err _ _ _ _ _ h
 rename_i h1;rw[if_neg h1]at h
 split;· rename_i h1;rw[if_pos h1]at h;exact symlink_err _ _ _ _ _ _ _ h
 rename_i h1;rw[if_neg h1]at h
 split;· rename_i h1;rw[if_pos h1]at h;exact chmod_err _ _ _ _ _ h
 rfl
def Whole (k:KernL)(R:DoL):Prop:=R.2.e≠0→R.1=k∧R.2=errR R.2.e
theorem Whole.err (k:KernL)(e:Int):Whole k (k,errR e):=fun _=>⟨rfl,rfl⟩
theorem Whole.ok {k:KernL}{R:DoL}(h:R.2.e=0):Whole k R:=fun h2=>absurd h h2
theorem whole_at (k:KernL)(p flags:Int)(l:List NodeL)(i e:Int):Whole k (openAt k p flags l i e):=by
 unfold openAt;split
 · exact Whole.err k _
 · exact Whole.ok rfl
theorem whole_open (k:KernL)(p:Int)(c:CallL):Whole k (openK k p c):=by
 unfold openK;split;exact Whole.err k _;split;exact Whole.err k _;split;exact Whole.err k _;unfold openFrom;split;exact Whole.err k _;split
 · unfold openNew
   split;exact Whole.err k _;split;exact Whole.err k _;exact whole_at _ _ _ _ _ _
 · exact whole_at _ _ _ _ _ _
theorem whole_do (k:KernL)(p:Int)(c:CallL):Whole k (doK k p c):=by
 unfold doK;split;exact Whole.err k _;split;exact whole_open k p c;split
 · unfold shutK
   split;exact Whole.err k _;exact Whole.ok rfl
 split
 · unfold descK
   split;exact Whole.err k _;split
   · unfold readK
     split;exact Whole.err k _;exact Whole.ok rfl
   split
   · unfold writeK
     split;exact Whole.err k _;exact Whole.ok rfl
   split
   · unfold listK
     split;exact Whole.err k _;exact Whole.ok rfl
   split
   · unfold flockK
     split;exact Whole.err k _;exact Whole.ok rfl
   unfold dupK;split;exact Whole.err k _;exact Whole.ok rfl
 split
 · unfold renamedK
   split;exact Whole.err k _;split;exact Whole.err k _;intro h;refine⟨?_,rfl⟩;show withD k _=k;rw[rename_err _ _ _ _ _ _ _ h];rfl
 split
 · unfold lookedK
   split;exact Whole.err k _;split;exact Whole.err k _;unfold lookAt;split;exact Whole.ok rfl;split;exact Whole.err k _;split;exact Whole.ok rfl;split;exact Whole.err k _;split;exact Whole.err k _;exact Whole.ok rfl
 unfold changedK;split;exact Whole.err k _;intro h;refine⟨?_,rfl⟩;show withD k _=k;rw[change_err _ _ _ _ _ h];rfl
theorem put_len1 (es:List EntL)(e:EntL):(putL es e).length≤es.length+1:=by
 have h:(lo es e.1).length+(hi es e.1).length≤es.length:=by
  unfold lo hi
  induction es with
  | nil=>exact Nat.le_refl _
  | cons a es ih =>
     simp only[List.filter_cons];by_cases h1:a.1<e.1
     · have h2: ¬e.1<a.1:=fun h=>List.lt_irrefl _ (List.lt_trans h1 h)
       rw[decide_eq_true h1,decide_eq_false h2];simp only[if_true,Bool.false_eq_true,if_false,List.length_cons];omega
     · rw[decide_eq_false h1]
       by_cases h2:e.1<a.1
       · rw[decide_eq_true h2]
         simp only[if_true,Bool.false_eq_true,if_false,List.length_cons];omega
       · rw[decide_eq_false h2]
         simp only[Bool.false_eq_true,if_false,List.length_cons];omega
 unfold putL;rw[List.length_append,List.length_cons];omega
def NamC (c:Nat)(l:List NodeL):Prop:=∀n∈l,n.names.length≤c
theorem NamC.mono {c c':Nat}{l:List NodeL}(h:NamC c l)(hc:c≤c'):NamC c' l:=fun n hn=>Nat.le_trans (h n hn) hc
theorem NamC.node {c:Nat}{l:List NodeL}(h:NamC c l)(i:Int):(nodeL l i).names.length≤c:=by
 unfold nodeL atI;split
 · rw[List.getD_eq_getElem?_getD]
   rcases Nat.lt_or_ge i.toNat l.length with hi | hi
   · rw[List.getElem?_eq_getElem hi];exact h _ (List.getElem_mem hi)
   · rw[List.getElem?_eq_none hi];exact Nat.zero_le _
 · exact Nat.zero_le _
theorem NamC.set {c:Nat}{l:List NodeL}(h:NamC c l){n:NodeL}(hn:n.names.length≤c)(i:Int):NamC c (setL l i n):=by
 unfold setL;split
 · intro m hm
   rcases List.mem_or_eq_of_mem_set hm with hm | rfl
   · exact h m hm
   · exact hn
 · exact h
theorem NamC.named {c:Nat}{l:List NodeL}(h:NamC c l)(s:SpotL)(i:Int):NamC (c+1) (namedL l s i) :=
 (h.mono (Nat.le_succ c)).set (n:=putN (nodeL l s.dir) s.name i) (by have h1:=put_len1 (nodeL l s.dir).names (s.name,i);have h2:=h.node s.dir;show(putL (nodeL l s.dir).names (s.name,i)).length≤_;omega) s.dir
theorem NamC.dropped {c:Nat}{l:List NodeL}(h:NamC c l)(s:SpotL):NamC c (droppedL l s):=h.set (n:=dropN (nodeL l s.dir) s.name) (Nat.le_trans (List.length_filter_le _ _) (h.node s.dir)) s.dir
theorem NamC.settle {c:Nat}{l:List NodeL}(h:NamC c l)(i:Int):NamC c (settleL l i):=by
 unfold settleL;split
 · exact h.set (Nat.zero_le _) i
 · exact h
theorem NamC.lost {c:Nat}{l:List NodeL}(h:NamC c l)(s:SpotL):NamC c (lostL l s):=((h.dropped s).set (n:=lessN (nodeL (droppedL l s) s.ino)) ((h.dropped s).node s.ino) s.ino).settle s.ino
theorem NamC.opened {c:Nat}{l:List NodeL}(h:NamC c l)(i b:Int):NamC c (openedL l i b):=(h.set (n:=opnN (nodeL l i) b) (h.node i) i).settle i
theorem NamC.add {c:Nat}{l:List NodeL}(h:NamC c l){n:NodeL}(hn:n.names.length≤c)(most room:Int):NamC c (addL l most room n):=by
 unfold addL;split
 · exact h
 · split
   · intro m hm
     rcases List.mem_append.1 hm with hm | hm
     · exact h m hm
     · obtain rfl:=List.mem_singleton.1 hm
       exact hn
   · intro m hm
     rcases List.mem_or_eq_of_mem_set hm with hm | rfl
     · exact h m hm
     · exact hn
theorem NamC.enter {c:Nat}{l:List NodeL}(h:NamC c l){n:NodeL}(hn:n.names = [])(most room who:Int)(s:SpotL):NamC (c+1) (enterL l most room who s n).1:=by
 unfold enterL;split
 · exact h.mono (Nat.le_succ c)
 · split
   · exact h.mono (Nat.le_succ c)
   · exact(h.add (n:=ownN n who) (by rw[show(ownN n who).names = []from hn];exact Nat.zero_le _) most room).named s _
theorem NamC.moved {c:Nat}{l:List NodeL}(h:NamC c l)(s t:SpotL):NamC c (movedL l s t):=by
 unfold movedL;split
 · exact(h.dropped s).lost t
 · exact h.dropped s
theorem NamC.kept {c:Nat}{l:List NodeL}(h:NamC c l)(room i:Int)(d:Nm):NamC c (keptL l room i d).1:=by
 unfold keptL;split
 · exact h
 · exact h.set (n:=dataN (getL l i) d) (by rw[getL_nodeL];exact h.node i) i
section
variable {c:Nat} {l:List NodeL} (h:NamC c l)
include h
theorem namC_mkfile (most room who fr:Int)(path:Str)(mode:Int):NamC (c+1) (mkfileL l most room who fr path mode).1:=by
 unfold mkfileL;split;exact h.mono (Nat.le_succ c);split;exact h.mono (Nat.le_succ c);exact h.enter rfl _ _ _ _
theorem namC_write (room i a:Int)(s:Nm):NamC c (writeL l room i a s).1:=by
 unfold writeL;split;exact h;split;exact h;split;exact h;split;exact h;exact h.kept _ _ _
theorem namC_cut (room i n:Int):NamC c (cutL l room i n).1:=by
 unfold cutL;split;exact h;split;exact h;split;exact h.kept _ _ _;split;exact h;exact h.kept _ _ _
theorem namC_rename (who fr who2 fr2:Int)(old path:Str):NamC (c+1) (renameL l who fr who2 fr2 old path).1:=by
 have h1:=h.mono (Nat.le_succ c);unfold renameL;split;exact h1;split;exact h1;split;exact h1;split;exact h1;unfold moveL;exact((h.moved _ _).named _ _).set (n:=placeN _ _) (((h.moved _ _).named _ _).node _) _
end
theorem namC_change {c:Nat}{k:KernL}(h:NamC c k.l)(who umask fr:Int)(x:CallL):NamC (c+1) (changeL k who umask fr x).1:=by
 have h1:=h.mono (Nat.le_succ c);unfold changeL;split
 · unfold mkdirL
   split;exact h1;exact h.enter rfl _ _ _ _
 split
 · unfold rmdirL
   split;exact h1;split;exact h1;exact h1.lost _
 split
 · unfold unlinkL
   split;exact h1;split;exact h1;split;exact h1;exact h1.lost _
 split
 · unfold linkL
   split;exact h1;split;exact h1;split;exact h1;split;exact h1;split;exact h1;exact(h.set (n:=moreN _) (h.node _) _).named _ _
 split
 · unfold symlinkL
   split;exact h1;split;exact h1;split;exact h1;split;exact h1;exact h.enter rfl _ _ _ _
 split
 · unfold chmodL
   split;exact h1;split;exact h1;exact h1.set (n:=modeN _ _) (h1.node _) _
 exact h1
def KrnS (c:Nat)(k:KernL):Prop:=k.most≤100∧k.room≤1000∧NamC c k.l∧k.t.ds.length≤c
theorem KrnS.mono {c c':Nat}{k:KernL}(h:KrnS c k)(hc:c≤c'):KrnS c' k:=⟨h.1,h.2.1,h.2.2.1.mono hc,Nat.le_trans h.2.2.2 hc⟩
theorem len_openT (t:TabL)(p:Int)(x:DescL):(openT t p x).1.ds.length≤t.ds.length+1:=by
 unfold openT;split
 · exact Nat.le_succ _
 · split
   · exact Nat.le_succ _
   · show(putD1 _ _ _).length≤_
     rw[putD1_len];split<;>omega
theorem len_dupT (t:TabL)(p fd:Int):(dupT t p fd).1.ds.length=t.ds.length:=by
 unfold dupT;split
 · rfl
 · split
   · rfl
   · exact List.length_set ..
theorem len_closeT (t:TabL)(p fd:Int):(closeT t p fd).1.ds.length=t.ds.length:=by
 unfold closeT;split
 · rfl
 · exact List.length_set ..
theorem len_setT (t:TabL)(i:Int)(x:DescL):(setT t i x).ds.length=t.ds.length:=by
 unfold setT;split
 · rfl
 · exact List.length_set ..
theorem size_at {c:Nat}{k:KernL}(h:KrnS c k){l:List NodeL}(hl:NamC (c+1) l)(p flags i e:Int):KrnS (c+1) (openAt k p flags l i e).1:=by
 unfold openAt;split
 · exact h.mono (Nat.le_succ c)
 · exact⟨h.1,h.2.1,hl.opened _ _,by have:=len_openT k.t p (newD flags i);have:=h.2.2.2;show(openT _ _ _).1.ds.length≤_;omega⟩
theorem size_do {c:Nat}{k:KernL}(h:KrnS c k)(p:Int)(x:CallL):KrnS (c+1) (doK k p x).1:=by
 have h1:=h.mono (Nat.le_succ c);(have tab : ∀ {t:TabL},t.ds.length≤k.t.ds.length→KrnS (c+1) (withT k t):=fun ht=>⟨h1.1,h1.2.1,h1.2.2.1,Nat.le_trans ht h1.2.2.2⟩);unfold doK;split;exact h1;split
 · unfold openK
   split;exact h1;split;exact h1;split;exact h1;unfold openFrom;split;exact h1;split
   · unfold openNew
     split;exact h1;split;exact h1;exact size_at h (namC_mkfile h.2.2.1 _ _ _ _ _ _) _ _ _ _
   · refine size_at h ?_ _ _ _ _
     unfold fitL;split;exact h1.2.2.1;split
     · exact namC_cut h1.2.2.1 _ _ _
     · exact h1.2.2.1
 split
 · unfold shutK
   split;exact h1;refine⟨h1.1,h1.2.1,?_,by show(closeT _ _ _).1.ds.length≤_;rw[len_closeT];exact h1.2.2.2⟩;show NamC _ (if _ then _ else _);split
   · exact h1.2.2.1.opened _ _
   · exact h1.2.2.1
 split
 · unfold descK
   split;exact h1;split
   · unfold readK
     split;exact h1;exact tab (Nat.le_of_eq (len_setT _ _ _))
   split
   · unfold writeK
     split;exact h1;exact⟨h1.1,h1.2.1,namC_write h1.2.2.1 _ _ _ _,by show(setT _ _ _).ds.length≤_;rw[len_setT];exact h1.2.2.2⟩
   split
   · unfold listK
     split<;>exact h1
   split
   · unfold flockK
     split;exact h1;exact tab (Nat.le_of_eq (lock_len _ _ _))
   unfold dupK;split;exact h1;exact tab (Nat.le_of_eq (len_dupT _ _ _))
 split
 · unfold renamedK
   split;exact h1;split;exact h1;exact⟨h1.1,h1.2.1,namC_rename h.2.2.1 _ _ _ _ _ _,h1.2.2.2⟩
 split
 · unfold lookedK
   split;exact h1;split;exact h1;unfold lookAt;split;exact h1;split;exact h1;split;exact h1;split;exact h1;split;exact h1;exact⟨h1.1,h1.2.1,(h1.2.2.1.opened _ _).opened _ _,h1.2.2.2⟩
 unfold changedK;split;exact h1;exact⟨h1.1,h1.2.1,namC_change h.2.2.1 _ _ _ _,h1.2.2.2⟩
theorem small_right {c:Nat}{k:KernL}(h:RigK k)(hs:KrnS c k):k.l.length≤100∧∀n∈k.l,n.data.length≤1000∧n.names.length≤c:=by
 obtain⟨hR,h0,hl,hb⟩:=(right_iff _ _ _).1 h.disk;have h1:=hs.1;have h2:=hs.2.1;refine⟨by omega,fun n hn=>⟨?_,hs.2.2.1 n hn⟩⟩;obtain⟨i,hi,rfl⟩:=List.mem_iff_getElem.1 hn;rw[←nd_lt hi];by_cases hk:(nd k.l i).kind=0
 · rw[hR.zero i hk];exact Nat.zero_le _
 · by_cases h2:(nd k.l i).kind=2
   · rw[(hR.loc i hk).2.2.1 h2];exact Nat.zero_le _
   · have hp:=(hR.loc i hk).1
     unfold plainB at hp;simp only[Bool.and_eq_true,decide_eq_true_iff]at hp
     have hw:weightL (nd k.l i)=(nd k.l i).data.length:=by
      unfold weightL;rw[if_pos (by omega)]
     have:=bytes_set hi zeroN;have hz:weightL zeroN=0:=rfl;omega
end Go.Proofs.YtbjkkijickbppaaGreatDoor
namespace Go.Proofs.YtbjkkijickbppaaGreatDoor
open Go.RowKit Go.Shelf
attribute [local go_sem ↓] Go.wp_at_zero Go.wp_at_succ
theorem th3 {X:Nat→Prop}{w:World}{P Q R:Thing}(f:Firm P)(h:P X w)(g:Firm Q)(k:Q X w)(e:Firm R)(m:R X w) : ∀S∈ [P,Q,R],Firm S∧S X w:=fun S hS=>by
 simp only[List.mem_cons,List.not_mem_nil,or_false]at hS;rcases hS with rfl | rfl | rfl
 · exact⟨f,h⟩
 · exact⟨g,k⟩
 · exact⟨e,m⟩
theorem results_cc {P:Program}{fn:Func}{p q:Tmp}{ty ty2:TypeId}(h:fn.results = #[.cell p ty, .cell q ty2])(tmps:Array Value)(w:World)(g g2:Nat)(t t2:TypeId)(cs cs2:Array Value)(fr fr2:Nat × Nat)(d d2:TypeDesc)
 (hp:tmps.getD p undef = .pointer (some ⟨g,0,none⟩)) (hg:w.heap[g]? = some (.cells cs t fr)) (hq:tmps.getD q undef = .pointer (some ⟨g2,0,none⟩)) (hg2:w.heap[g2]? = some (.cells cs2 t2 fr2))
 (hu:P.underlying ty=some d) (hd:(match d with | .struct _ | .array _ _=>true | _=>false)=true) (hi:(P.info? ty).map (·.size)=some cs.size)
 (hu2:P.underlying ty2=some d2) (hd2:(match d2 with | .struct _ | .array _ _=>true | _=>false)=true) (hi2:(P.info? ty2).map (·.size)=some cs2.size) :
 (results fn tmps).run P w = .ok (.tuple #[.agg cs, .agg cs2]) w:=by
  (have hp':tmps[p]?.getD undef = .pointer (some ⟨g,0,none⟩):=by simpa using hp);(have hq':tmps[q]?.getD undef = .pointer (some ⟨g2,0,none⟩):=by simpa using hq);simp[results,h,hp',hq',asAddr,run_loadVar_row w g t ty cs fr d hg hu hd hi,run_loadVar_row w g2 t2 ty2 cs2 fr2 d2 hg2 hu2 hd2 hi2,Result.andThen]
theorem k_disk {W:World}{b:Nat}{v0 v1 v2 v3 v4 v5:Value}{t:TypeId}{f:Nat × Nat}(h:W.heap[b]? = some (.cells #[v0,v1,v2,v3,v4,v5] t f)):W.rangeAt b 0 [v0,v1,v2]:=fun j v hv=>by
 rw[Lib.cell_of_heap h]
 match j with
 | 0=>simpa using hv
 | 1=>simpa using hv
 | 2=>simpa using hv
 | j+3=>simp at hv
theorem k_tab {W:World}{b:Nat}{v0 v1 v2 v3 v4 v5:Value}{t:TypeId}{f:Nat × Nat}(h:W.heap[b]? = some (.cells #[v0,v1,v2,v3,v4,v5] t f)):W.rangeAt b 3 [v3,v4]:=fun j v hv=>by
 rw[Lib.cell_of_heap h]
 match j with
 | 0=>simpa using hv
 | 1=>simpa using hv
 | j+2=>simp at hv
def NodeTh (n:NodeL)(v:Value):Thing:=fun X W=>NodeX X n v W
theorem NodeTh.firm (n:NodeL)(v:Value):Firm (NodeTh n v):=⟨fun h hb hY=>NodeX.add h hb hY,fun h hX hs hg=>NodeX.other h hX hs hg⟩
end Go.Proofs.YtbjkkijickbppaaGreatDoor
namespace Go.Proofs.YtbjkkijickbppaaGreatDoor
def SeenN (m n:NodeL):Prop:=m.kind=n.kind∧m.mode=n.mode∧m.owner=n.owner∧m.up=n.up∧m.names=n.names∧(n.kind=3→m.data=n.data)
theorem SeenN.rfl' (n:NodeL):SeenN n n:=⟨rfl,rfl,rfl,rfl,rfl,fun _=>rfl⟩
def SameW (l l':List NodeL):Prop:=∀j:Nat,SeenN (nd l' j) (nd l j)
theorem SameW.rfl' (l:List NodeL):SameW l l:=fun _=>SeenN.rfl' _
theorem SameW.trans {a b c:List NodeL}(h1:SameW a b)(h2:SameW b c):SameW a c:=fun j=>by
 obtain⟨a1,a2,a3,a4,a5,a6⟩:=h1 j;obtain⟨b1,b2,b3,b4,b5,b6⟩:=h2 j;exact⟨b1.trans a1,b2.trans a2,b3.trans a3,b4.trans a4,b5.trans a5,fun h=>(b6 (a1.trans h)).trans (a6 h)⟩
theorem nodeL_cases (l:List NodeL)(i:Int):(∃j:Nat,i=j∧(nd l j).kind≠0∧nodeL l i=nd l j)∨(gotB l i=false∧nodeL l i=zeroN):=by
 cases h:gotB l i with
 | true =>
    obtain⟨j,rfl,_,hk⟩:=got_nat h;exact .inl ⟨j,rfl,hk,nodeL_nd hk⟩
 | false=>exact .inr ⟨rfl,by unfold nodeL;rw[h];rfl⟩
theorem SameW.got {l l':List NodeL}(h:SameW l l')(i:Int):gotB l' i=gotB l i:=by
 rw[Bool.eq_iff_iff];constructor
 · intro hg
   obtain⟨j,rfl,_,hk⟩:=got_nat hg;rw[got_nd,←(h j).1];exact hk
 · intro hg
   obtain⟨j,rfl,_,hk⟩:=got_nat hg;rw[got_nd,(h j).1];exact hk
theorem SameW.node {l l':List NodeL}(h:SameW l l')(i:Int):SeenN (nodeL l' i) (nodeL l i):=by
 rcases nodeL_cases l i with⟨j,rfl,hk,e⟩ | ⟨hg,e⟩
 · rw[e,nodeL_nd (by rw[(h j).1];exact hk)]
   exact h j
 · rw[e]
   unfold nodeL;rw[h.got,hg];exact SeenN.rfl' _
theorem SameW.dir {l l':List NodeL}(h:SameW l l')(i:Int):dirE l' i=dirE l i:=by
 unfold dirE;rw[h.got,(h.node i).1]
theorem SameW.look {l l':List NodeL}(h:SameW l l')(i:Int)(p:Str):lookL l' i p=lookL l i p:=by
 unfold lookL;rw[(h.node i).2.2.2.1,(h.node i).2.2.2.2.1]
theorem SameW.may {l l':List NodeL}(h:SameW l l')(who i:Int):mayAt l' who i=mayAt l who i:=by
 unfold mayAt;rw[(h.node i).2.1,(h.node i).2.2.1]
theorem opened_seen {l:List NodeL}{i:Nat}(hik:(nd l i).kind≠0){b:Int}(hb:i=0∨0<(nd l i).links∨0<(nd l i).opn+b):SameW l (openedL l (i:Int) b):=fun j=>by
 rw[opened_nd hik];split
 · rename_i e
   subst e;unfold atN;rw[if_neg (by omega)];exact⟨rfl,rfl,rfl,rfl,rfl,fun _=>rfl⟩
 · exact SeenN.rfl' _
end Go.Proofs.YtbjkkijickbppaaGreatDoor
namespace Go.Proofs.YtbjkkijickbppaaGreatDoor
open Go.RowKit Go.Shelf
attribute [local go_sem ↓] Go.wp_at_zero Go.wp_at_succ
structure KrnOk (k:KernL):Prop where
 rig:RigK k
 siz:KrnS 120 k
 dsk:Dsk k.l
theorem KrnOk.len {k:KernL}(h:KrnOk k):k.l.length≤10000:=Nat.le_trans h.dsk.sm.1 (by decide)
theorem KrnOk.size {k:KernL}(h:KrnOk k):SizeT k.t:=by
 have h8:=h.rig.eight;have hd:=h.siz.2.2.2;exact⟨by omega,by omega,fun r hr=>by have:=(h.rig.tab.1 r hr).1;omega⟩
theorem KrnOk.opn {k:KernL}(h:KrnOk k)(i b:Int)(hb : -1≤b∧b≤1):IntKind.i64.wrap ((nodeL k.l i).opn+b)=(nodeL k.l i).opn+b:=by
 have hle:0≤(nodeL k.l i).opn∧(nodeL k.l i).opn≤1000:=by
  rcases nodeL_cases k.l i with⟨j,rfl,hk,e⟩ | ⟨_,e⟩
  · rw[e,h.rig.opn j hk]
    have h1:opensD k.t.ds (j:Int)≤k.t.ds.length:=List.countP_le_length;have h2:opensP k.ps (j:Int)≤k.ps.length:=List.countP_le_length;have h3:=h.siz.2.2.2;have h4:=h.rig.procs;unfold opensN;omega
  · rw[e];exact⟨Int.le_refl 0,by decide⟩
 exact Go.IntWalk.i64_in _ (by omega)
end Go.Proofs.YtbjkkijickbppaaGreatDoor
namespace Go.Proofs.YtbjkkijickbppaaGreatDoor
open Go.RowKit Go.Shelf
attribute [local go_sem ↓] Go.wp_at_zero Go.wp_at_succ
section
variable {ps:List ProcL} {X:Nat→Prop} {W:World} {b off cp:Nat}
theorem PsX.c0 (h:PsX ps (.slice (some ⟨b,off,none⟩) ps.length cp) X W)(a:Nat)(ha:a<ps.length):W.cell? ⟨b,off+a*4,none⟩=some (.int .i64 (ps[a]).who):=by
 obtain⟨b',o',e,c0,_⟩:=h.proc a ha;injection e with e;injection e with e1 e2 _;subst e1;subst e2;exact c0
theorem PsX.c1 (h:PsX ps (.slice (some ⟨b,off,none⟩) ps.length cp) X W)(a:Nat)(ha:a<ps.length):W.cell? ⟨b,off+a*4+1,none⟩=some (.int .i64 (ps[a]).umask):=by
 obtain⟨b',o',e,_,c1,_⟩:=h.proc a ha;injection e with e;injection e with e1 e2 _;subst e1;subst e2;exact c1
theorem PsX.c2 (h:PsX ps (.slice (some ⟨b,off,none⟩) ps.length cp) X W)(a:Nat)(ha:a<ps.length):W.cell? ⟨b,off+a*4+2,none⟩=some (.int .i64 (ps[a]).cwd):=by
 obtain⟨b',o',e,_,_,c2,_⟩:=h.proc a ha;injection e with e;injection e with e1 e2 _;subst e1;subst e2;exact c2
end
end Go.Proofs.YtbjkkijickbppaaGreatDoor
namespace Go.Proofs.YtbjkkijickbppaaGreatDoor
open Go.RowKit Go.Shelf
attribute [local go_sem ↓] Go.wp_at_zero Go.wp_at_succ
theorem infoProcR:(Tryz.prog.info? 72).map (fun i=>(i.zero,i.size,i.bytes))=some (some (.agg #[.int .i64 0, .int .i64 0, .int .i64 0, .bool false]),4,32):=by kernel_rfl
theorem Sf.rdx {X:Nat→Prop}{w W:World}{B:List Bl}{G:List Thing}(h:Sf X w B G W){e:TypeId}{s n:Nat}{v:Value}{xs:List Value}(ho:W.ownsRow w.heap.size e s v n xs)(hne:(B.map (·.2.2)).contains e=false):RdX s v n xs (Xo X (B.map (·.1))) W :=
 ⟨Rd.own ho (Nat.le_refl _),fun g hg=>by
  rcases hg with hg | hg
  · exact own_far ho (h.old g hg)
  · obtain⟨x,hx,rfl⟩:=List.mem_map.1 hg
    intro a n' c ev _ hb
    exact h.apart ho hne a.block (by rw[ev];rfl) x hx hb.symm⟩
end Go.Proofs.YtbjkkijickbppaaGreatDoor
