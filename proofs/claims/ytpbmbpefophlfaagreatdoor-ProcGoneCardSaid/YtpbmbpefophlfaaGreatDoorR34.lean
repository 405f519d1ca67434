import Derived.Test.YtpbmbpefophlfaaGreatDoorR33
namespace Go.Proofs.YtpbmbpefophlfaaGreatDoor
open Go.RowKit Go.Shelf
theorem wpList_copy_rd {P:Program}{w:World}{ops:Array Oper}{rest:List Oper}{o:Oper}{a:Act}{Q:Exit→Act→World→Prop}(hgd:o.guard=none)(d s:Operand)(dT sT:TypeId)
 (ho:o.op = .call { callee:= .builtin .copy,args:= #[d,s],argTypes:= #[dT,sT]}) (elem:TypeId) (size:Nat) (hu:P.underlying dT=some (.slice elem)) (hsz:(P.info? elem).map (·.size)=some size)
 (g dLen dCap:Nat) (hd:a.eval d = .slice (some ⟨g,0,none⟩) dLen dCap) (B:Nat) (vs:Value) (m:Nat) (ms:List Value) (hs:a.eval s=vs) (hr:Rd B size vs m ms w) (hm:m≤dLen)
 (cur:Array Value) (t:TypeId) (hg:w.heap[g]? = some (.cells cur t (0,0))) (hfit:m*size≤cur.size) (h1 : ∀u∈ms,u.oneCell'=true)
 (h:wpList P ops Q rest (a.put o.dst (goInt m)) (w.setCells g 0 ms)):wpList P ops Q (o::rest) a w:=by
  obtain⟨ao,cap,rfl,hc,hmm,h0,hl,hcell⟩:=hr;(refine wpList_plain hgd fun K hK=> ?_);have hst:=run_storeCells_cells (P:=P) g 0 ms 0 w (fun j hj=>by rw[Lib.cell_of_heap hg];simp;omega) (fun j _=>Lib.frozen_of_heap hg _) h1;have hK':=hK _ _ h;have hmin:Nat.min m dLen=m:=Nat.min_eq_left hm
  cases hq:P.info? elem with
  | none=>simp[hq]at hsz
  | some i =>
     have hi:i.size=size:=by simpa[hq]using hsz
     have hrun:(Builtin.copy_ #[dT,sT] o.type #[.slice (some ⟨g,0,none⟩) dLen dCap, .slice ao m cap]).run P w = .ok (goInt m) (w.setCells g 0 ms):=by
      cases ao with
      | none =>
         have hm0:=h0 rfl;(have e1:m=0:=by omega);subst e1;obtain rfl:ms = []:=List.eq_nil_of_length_eq_zero (by simpa using hl);simp[Builtin.copy_,run_underlying hu,Builtin.lenOf,Builtin.firstCells,sizeOf,typeInfo,hq,storeCells,World.setCells]
      | some ad =>
         have hload:(loadCells ad (m*size)).run P w = .ok ms.toArray w:=by
          rw[←hl];refine run_loadCells_list (P:=P) w ad ms fun j v hv=> ?_
          have hpos:0<m:=by
           rcases Nat.eq_zero_or_pos m with h | h
           · subst h
             obtain rfl:=List.eq_nil_of_length_eq_zero (by simpa using hl);simp at hv
           · exact h
          obtain⟨b,off,e,_,hcc⟩:=hcell hpos;injection e with e;subst e;rw[Go.WideShapes.add_plain];exact hcc j v hv
         have hst':(storeCells ⟨g,0,none⟩ ms).run P w = .ok () (w.setCells g 0 ms):=hst;simp[Builtin.copy_,run_underlying hu,Builtin.lenOf,Builtin.firstCells,sizeOf,typeInfo,hq,hi,hload,hst',hmin]
     unfold Oper.wp;simp[execOp,ho,resolve,invoke,builtin,hd,hs,hrun,Result.andThen];exact hK'
theorem wp_store_one {P:Program}{op:Oper}{a:Act}{w:World}{K:Act→World→Prop}{Q:Exit→Act→World→Prop}(ty:TypeId)(x y:Operand)(ho:op.op = .store ty x y)
 (b i:Nat) {v:Value} (hx:a.eval x = .pointer (some ⟨b,i,none⟩)) (hy:a.eval y=v) (hc:v.cells = #[v]) (h1:v.oneCell'=true) (hb:(w.cell? ⟨b,i,none⟩).isSome=true) (hf:w.frozen? ⟨b,i,none⟩=false) (hz:(P.info? ty).map (·.size)=some 1)
 (h:K (a.put op.dst undef) (w.setCell ⟨b,i,none⟩ v)):op.wp P a w K Q:=by
  have hst:=run_storeCells_cells (P:=P) b i [v] 0 w (fun j hj=>by
   (have:j=0:=by simpa using hj);subst this
   exact hb) (fun j hj=>by
   (have:j=0:=by simpa using hj);subst this
   exact hf) (fun u hu=>by rw[List.mem_singleton]at hu;subst hu;exact h1)
  have hsv:(storeVar ty ⟨b,i,none⟩ v).run P w = .ok () (w.setCell ⟨b,i,none⟩ v):=by
   simp only[Nat.add_zero]at hst
   cases hq:P.info? ty with
   | none=>simp[hq]at hz
   | some n =>
      (have hs:n.size=1:=by simpa[hq]using hz);simp[storeVar,sizeOf,typeInfo,hq,hc,hs,hst,World.setCells]
  unfold Oper.wp execOp;simp only[ho,hx,hy,Instr.storeAt,Instr.sureAddr,Sem.run_bind,Sem.run_pure,Result.andThen_ok,hsv];exact h
theorem Sf.apart3 {X:Nat→Prop}{w W:World}{B:List Bl}{G:List Thing}(_h:Sf X w B G W){base:Nat}{e:TypeId}{s n:Nat}{v:Value}{xs:List Value}(ho:W.ownsRow base e s v n xs)(hB : ∀g∈B.map (·.1),g<base) : ∀g,v.ownBlock=some g→∀x∈B,x.1≠g:=by
 intro g hg x hx e1;have:=hB _ (List.mem_map.2 ⟨x,hx,rfl⟩);have:=(ho.lt g hg).1;omega
theorem made_at (z:Array Value)(n j:Nat)(hj:j<n):(madeCells z n).toList[j]? = some z[j % z.size]!:= by
 rw[Array.getElem?_toList];simp[madeCells,hj]
theorem made_descs (n:Nat):(madeCells #[.int .i64 0, .int .i64 0, .bool false, .bool false, .int .i64 0, .int .i64 0] (n*6)).toList=cellsD (List.replicate n zeroD):=by
 apply List.ext_getElem?;intro j;rcases Nat.lt_or_ge j (n*6)with hj | hj
 · rw[made_at _ _ _ hj]
   obtain⟨q,r,rfl,hr⟩ : ∃q r,j=q*6+r∧r<6:=⟨j / 6,j % 6,by omega,by omega⟩;(have hq:q<n:=by omega);rw[cellsD_at _ q (by rw[List.length_replicate];exact hq) r hr,List.getElem_replicate,show(#[.int .i64 0, .int .i64 0, .bool false, .bool false, .int .i64 0, .int .i64 0]:Array Value).size=6 from rfl,show(q*6+r) % 6=r by omega];(have:r=0∨r=1∨r=2∨r=3∨r=4∨r=5:=by omega);rcases this with rfl | rfl | rfl | rfl | rfl | rfl<;>rfl
 · rw[List.getElem?_eq_none (by rw[Array.length_toList,size_madeCells];exact hj),List.getElem?_eq_none (by rw[cellsD_len,List.length_replicate];exact hj)]
theorem made_one (z:Value)(n:Nat):(madeCells #[z] n).toList=List.replicate n z:=by
 apply List.ext_getElem?;intro j;rcases Nat.lt_or_ge j n with hj | hj
 · rw[made_at _ _ _ hj,List.getElem?_replicate,if_pos hj,show(#[z]:Array Value).size=1 from rfl,Nat.mod_one]
   rfl
 · rw[List.getElem?_eq_none (by rw[Array.length_toList,size_madeCells];exact hj),List.getElem?_eq_none (by rw[List.length_replicate];exact hj)]
theorem own_descs {W:World}{base:Nat}{e:TypeId}{v:Value}{n:Nat}(h:W.ownsRow base e 6 v n (madeCells #[.int .i64 0, .int .i64 0, .bool false, .bool false, .int .i64 0, .int .i64 0] (n*6)).toList):W.ownsRow base e 6 v (List.replicate n zeroD).length (cellsD (List.replicate n zeroD)):=by
 rw[made_descs]at h;rw[List.length_replicate];exact h
theorem own_ints {W:World}{base:Nat}{e:TypeId}{v:Value}{n:Nat}(h:W.ownsRow base e 1 v n (madeCells #[.int .i64 0] (n*1)).toList):W.ownsRow base e 1 v (List.replicate n (0:Int)).length (intC (List.replicate n 0)):=by
 rw[made_one,Nat.mul_one]at h;rw[List.length_replicate];unfold intC;rw[List.map_replicate];exact h
theorem own_cells {W:World}{b:Nat}{e:TypeId}{s n m g cap:Nat}{xs:List Value}(h:W.ownsRow b e s (.slice (some ⟨g,0,none⟩) m cap) n xs) : ∃cur,W.heap[g]? = some (.cells cur e (0,0))∧cur.size=cap*s:=by
 rcases h.2 with⟨e1,_⟩ | ⟨g',cap',cur,e1,h1,h2,h3,h4,h5,h6⟩
 · cases e1
 injection e1 with e1 e2 e3;injection e1 with e1;injection e1 with e1 _ _;subst e1;subst e3;exact⟨cur,h2,h5⟩
section
variable {tD tS tI:TypeId} {base:Nat} {t:TabL} {vd vf:Value} {rows:List RowV} {X:Nat→Prop} {W W':World}
def noRow:RowV:=([], .slice none 0 0)
theorem OwnT.start {ds:List DescL}{n:Nat}(h:OwnT tD tS tI base ⟨ds,[]⟩ vd (.slice none 0 0) [] W)(ho:W.ownsRow base tS 1 vf n (madeCells #[.slice none 0 0] (n*1)).toList):OwnT tD tS tI base ⟨ds,List.replicate n []⟩ vd vf (List.replicate n noRow) W:=by
 refine⟨by rw[List.map_replicate];rfl,h.ds,?_,fun m hm=> ?_,fun i j a b ha _ _ g hg=> ?_⟩
 · rw[made_one,Nat.mul_one]at ho
   rw[List.length_replicate,List.map_replicate];exact ho
 · obtain rfl:=List.eq_of_mem_replicate hm
   exact World.ownsRow_nil _ _ _ _
 · obtain rfl:=List.eq_of_mem_replicate (List.mem_of_getElem? ha)
   cases hg
theorem OwnT.putRow (h:OwnT tD tS tI base t vd vf rows W){gf capf p:Nat}(e:vf = .slice (some ⟨gf,0,none⟩) rows.length capf)(hp:p<t.fs.length){r:List Int}{v:Value}(hv:W.ownsRow base tI 1 v r.length (intC r))(hn : ∀g,v.ownBlock=some g→∀m∈rows,m.2.ownBlock≠some g)
 (hD:tD≠tS) (hI:tI≠tS) (hg:W'.heap[gf]? = (W.setCells gf p [v]).heap[gf]?) (hoth : ∀k,k≠gf→W'.heap[k]? = W.heap[k]?):OwnT tD tS tI base ⟨t.ds,t.fs.set p r⟩ vd vf (rows.set p (r,v)) W':=by
  subst e;have hl:=rows_len h.fs;(have hp':p<rows.length:=by omega);have hO:=h.out;(have ne : ∀ {b:Nat} {e':TypeId} {s n:Nat} {v:Value} {xs:List Value},W.ownsRow b e' s v n xs→e'≠tS→v.ownBlock≠some gf:=fun h' he hv=>own_ne hO h' (Ne.symm he) gf rfl hv);refine⟨?_,own_other h.ds (ne h.ds hD) hoth,?_,fun m hm=> ?_,fun i j a b ha hb hne q hq=> ?_⟩
  · show _=t.fs.set p r
    rw[List.map_set,h.fs]
  · rw[List.length_set]
    refine own_seg hO (o:=p) (vs:= [v]) (by rw[List.length_singleton];omega) ?_ hg;rw[List.map_set,List.set_eq_take_append_cons_drop,if_pos (by rw[List.length_map];exact hp')];rfl
  · obtain⟨j,hj⟩:=List.mem_iff_getElem?.1 hm
    rw[List.getElem?_set]at hj;split at hj
    · rename_i e
      injection hj with hj;subst hj;exact own_other hv (ne hv hI) hoth
    · exact own_other (h.row m (List.mem_of_getElem? hj)) (ne (h.row m (List.mem_of_getElem? hj)) hI) hoth
  · have at' : ∀(i:Nat) (a:RowV),(rows.set p (r,v))[i]? = some a→(i=p∧a=(r,v))∨(i≠p∧rows[i]? = some a):=fun i a ha=>by
     rw[List.getElem?_set]at ha;split at ha
     · rename_i e
       injection ha with ha;exact .inl ⟨e.symm,ha.symm⟩
     · rename_i e
       exact .inr ⟨Ne.symm e,ha⟩
    rcases at' i a ha with⟨e1,e2⟩ | ⟨hi,ha⟩
    · subst e2
      rcases at' j b hb with⟨e3,e4⟩ | ⟨hj,hb⟩
      · exact absurd (e1.trans e3.symm) hne
      · exact hn q hq b (List.mem_of_getElem? hb)
    · rcases at' j b hb with⟨e3,e4⟩ | ⟨hj,hb⟩
      · subst e4
        intro hq2;exact hn q hq2 a (List.mem_of_getElem? ha) hq
      · exact h.apart i j a b ha hb hne q hq
theorem OwnT.fillRow (h:OwnT tD tS tI base t vd vf rows W){p g cr:Nat}{r0 r:List Int}(hp:p<t.fs.length)(hr:rows[p]? = some (r0, .slice (some ⟨g,0,none⟩) r0.length cr))(hlr:r.length=r0.length)(hD:tD≠tI)(hS:tS≠tI)
 (hg:W'.heap[g]? = (W.setCells g 0 (intC r)).heap[g]?) (hoth : ∀k,k≠g→W'.heap[k]? = W.heap[k]?):OwnT tD tS tI base ⟨t.ds,t.fs.set p r⟩ vd vf (rows.set p (r, .slice (some ⟨g,0,none⟩) r0.length cr)) W':=by
  have hl:=rows_len h.fs;(have hp':p<rows.length:=by omega);have hR:=h.row _ (List.mem_of_getElem? hr);have ne : ∀ {b:Nat} {e':TypeId} {s n:Nat} {v:Value} {xs:List Value},W.ownsRow b e' s v n xs→e'≠tI→v.ownBlock≠some g:=fun h' he hv=>own_ne hR h' (Ne.symm he) g rfl hv
  have hsnd:(rows.set p (r, .slice (some ⟨g,0,none⟩) r0.length cr)).map (·.2)=rows.map (·.2):=by
   apply List.ext_getElem?;intro j;rw[List.getElem?_map,List.getElem?_map,List.getElem?_set];split
   · rename_i e;subst e;rw[hr];rfl
   · rfl
  refine⟨?_,own_other h.ds (ne h.ds hD) hoth,?_,fun m hm=> ?_,fun i j a b ha hb hne q hq=> ?_⟩
  · show _=t.fs.set p r
    rw[List.map_set,h.fs]
  · rw[hsnd,List.length_set]
    exact own_other h.out (ne h.out hS) hoth
  · obtain⟨j,hj⟩:=List.mem_iff_getElem?.1 hm
    rw[List.getElem?_set]at hj;split at hj
    · rename_i e
      injection hj with hj;subst hj;show W'.ownsRow base tI 1 _ r.length _;rw[hlr];refine own_seg hR (o:=0) (vs:=intC r) (by rw[intC_len,hlr];omega) ?_ hg;rw[List.take_zero,List.nil_append,Nat.zero_add,List.drop_eq_nil_of_le (by rw[intC_len,intC_len,hlr];exact Nat.le_refl _),List.append_nil]
    · rename_i e
      exact own_other (h.row m (List.mem_of_getElem? hj)) (fun hq=>h.apart p j _ m hr hj e g rfl hq) hoth
  · have same : ∀(i:Nat) (a:RowV),(rows.set p (r, .slice (some ⟨g,0,none⟩) r0.length cr))[i]? = some a→∃a',rows[i]? = some a'∧a'.2=a.2:=fun i a ha=>by
     rw[List.getElem?_set]at ha;split at ha
     · rename_i e
       subst e;injection ha with ha;subst ha;exact⟨_,hr,rfl⟩
     · exact⟨a,ha,rfl⟩
    obtain⟨a',ha',ea⟩:=same i a ha;obtain⟨b',hb',eb⟩:=same j b hb;rw[←ea]at hq;rw[←eb];exact h.apart i j a' b' ha' hb' hne q hq
end
def partF (fs:List (List Int))(k:Nat):List (List Int):=fs.take k++List.replicate (fs.length-k) []
theorem partF_len (fs:List (List Int)){k:Nat}(h:k≤fs.length):(partF fs k).length=fs.length:=by unfold partF;rw[List.length_append,List.length_take,List.length_replicate];omega
theorem partF_zero (fs:List (List Int)):partF fs 0=List.replicate fs.length []:=by unfold partF;simp
theorem partF_all (fs:List (List Int)):partF fs fs.length=fs:=by unfold partF;simp
theorem partF_at (fs:List (List Int)){k:Nat}(h:k≤fs.length)(j:Nat):(partF fs k)[j]? = if j<k then fs[j]? else if j<fs.length then some []else none:=by
 (have hl:(fs.take k).length=k:=by rw[List.length_take];omega);unfold partF;by_cases h1:j<k
 · rw[if_pos h1,List.getElem?_append_left (by omega),List.getElem?_take,if_pos h1]
 · rw[if_neg h1,List.getElem?_append_right (by omega),hl,List.getElem?_replicate]
   by_cases h2:j<fs.length
   · rw[if_pos (by omega),if_pos h2]
   · rw[if_neg (by omega),if_neg h2]
theorem partF_next (fs:List (List Int)){k:Nat}(h:k<fs.length):(partF fs k).set k fs[k]=partF fs (k+1):=by
 apply List.ext_getElem?;intro j;rw[List.getElem?_set,partF_at fs (by omega),partF_at fs (by omega),partF_len fs (by omega)];rcases Nat.lt_trichotomy j k with h1 | h1 | h1
 · rw[if_neg (by omega),if_pos h1,if_pos (by omega)]
 · subst h1
   rw[if_pos rfl,if_pos h,if_pos (by omega),List.getElem?_eq_getElem h]
 · rw[if_neg (show ¬k=j by omega),if_neg (show ¬j<k by omega),if_neg (show ¬j<k+1 by omega)]
theorem cells_over (ds:List DescL){n:Nat}(h:ds.length≤n):cellsD (ds++List.replicate (n-ds.length) zeroD)=(cellsD (List.replicate n zeroD)).take 0++(cellsD ds++(cellsD (List.replicate n zeroD)).drop (0+(cellsD ds).length)):=by
 rw[List.take_zero,List.nil_append,Nat.zero_add,cellsD_app];congr 1;rw[show n=ds.length+(n-ds.length)by omega,←List.replicate_append_replicate,cellsD_app,List.drop_append,List.drop_eq_nil_of_le (by rw[cellsD_len,cellsD_len,List.length_replicate];exact Nat.le_refl _),List.nil_append,cellsD_len,cellsD_len,List.length_replicate,Nat.sub_self,List.drop_zero];congr 2;omega
theorem put_over (ds:List DescL){i:Nat}(h:i≤ds.length)(x:DescL):(ds++List.replicate (max ds.length (i+1)-ds.length) zeroD).set i x=putD1 ds i x:=by
 unfold putD1;rcases Nat.lt_or_ge i ds.length with h1 | h1
 · rw[if_neg (by omega),show max ds.length (i+1)-ds.length=0 by omega,List.replicate_zero,List.append_nil]
 · rw[if_pos (by omega),show max ds.length (i+1)-ds.length=1 by omega,List.set_append,if_neg (by omega),show i-ds.length=0 by omega]
   rfl
structure TurnL where
 p:Nat
 fd:Nat
 dst:Int
def ucells (u:TurnL):List Value:= [.int .i64 u.p, .int .i64 u.fd, .int .i64 u.dst]
def cellsU (us:List TurnL):List Value:=us.flatMap ucells
theorem cellsU_cons (d:TurnL)(ds:List TurnL):cellsU (d::ds)=ucells d++cellsU ds:=by simp[cellsU]
theorem cellsU_at (ds:List TurnL)(k:Nat)(h:k<ds.length)(j:Nat)(hj:j<3):(cellsU ds)[k*3+j]? = (ucells ds[k])[j]?:= by
 induction ds generalizing k with
 | nil=>simp at h
 | cons d ds ih =>
    have l3:(ucells d).length=3:=rfl;rw[cellsU_cons]
    cases k with
    | zero =>
       rw[List.getElem?_append_left (by omega)];simp
    | succ k =>
       rw[List.getElem?_append_right (by omega),l3,show(k+1)*3+j-3=k*3+j by omega];exact ih k (by simpa using h)
theorem RdX.turn {us:List TurnL}{au:Option Addr}{cu:Nat}{X:Nat→Prop}{W:World}(h:RdX 3 (.slice au us.length cu) us.length (cellsU us) X W)(k:Nat)(hk:k<us.length) : ∃b off,au=some ⟨b,off,none⟩∧W.rangeAt b (off+k*3) (ucells us[k]):=by
 obtain⟨b,off,c,e1,_,_,hb,_,hc⟩:=h.1.at (by omega);injection e1 with e1 e2 e3;subst e1;refine⟨b,off,rfl,fun j v hv=> ?_⟩
 have hj:j<3:=by
  rcases Nat.lt_or_ge j 3 with h | h
  · exact h
  · rw[List.getElem?_eq_none (by exact h)]at hv;cases hv
 rw[Nat.add_assoc];exact hc _ v ((cellsU_at _ k hk j hj).trans hv)
def turnF (fs:List (List Int))(us:List TurnL):List (List Int):=us.foldl (fun fs u=>putF fs u.p u.fd u.dst) fs
theorem turnF_next (fs:List (List Int))(us:List TurnL){k:Nat}(h:k<us.length):turnF fs (us.take (k+1))=putF (turnF fs (us.take k)) us[k].p us[k].fd us[k].dst:=by
 unfold turnF;rw[List.take_succ_eq_append_getElem h,List.foldl_append];rfl
theorem turnF_len (fs:List (List Int))(us:List TurnL):(turnF fs us).length=fs.length:=by
 induction us generalizing fs with
 | nil=>rfl
 | cons u us ih=>show(turnF (putF fs u.p u.fd u.dst) us).length=_;rw[ih,putF_len]
theorem putF_eight {fs:List (List Int)}(h : ∀r∈fs,r.length=8){p k:Nat}{v:Int}(hp:p<fs.length) : ∀r∈putF fs p k v,r.length=8:=by
 intro r hr;rcases List.mem_or_eq_of_mem_set hr with hr | rfl
 · exact h r hr
 · rw[List.length_set,getD_at hp]
   exact h _ (List.getElem_mem hp)
theorem turnF_eight {fs:List (List Int)}(h : ∀r∈fs,r.length=8)(us:List TurnL)(hu : ∀u∈us,u.p<fs.length) : ∀r∈turnF fs us,r.length=8:=by
 induction us generalizing fs with
 | nil=>exact h
 | cons u us ih=>exact ih (putF_eight h (hu u List.mem_cons_self)) fun v hv=>by rw[putF_len];exact hu v (List.mem_cons_of_mem _ hv)
end Go.Proofs.YtpbmbpefophlfaaGreatDoor
