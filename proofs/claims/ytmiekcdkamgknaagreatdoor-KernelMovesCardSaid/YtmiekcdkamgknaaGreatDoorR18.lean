import Derived.Lib.TrimByte
import Derived.Lib.Bytealg
import Derived.Test.YtmiekcdkamgknaaGreatDoorR11
import Derived.Test.YtmiekcdkamgknaaGreatDoorShelf
import Derived.Lib.Strings
import Derived.Laws.OwnMore
namespace Go.Proofs.YtmiekcdkamgknaaGreatDoor
def sp:Nat→Option Nat→List UInt8→List (Nat × Nat)
 | _,none,[]=> []
 | i,some s,[]=> [(s,i)]
 | i,none,c::r=>if c=47 then sp (i+1) none r else sp (i+1) (some i) r
 | i,some s,c::r=>if c=47 then(s,i)::sp (i+1) none r else sp (i+1) (some s) r
def spans (l:List UInt8):List (Nat × Nat):=sp 0 none l
def cutS (l:List UInt8)(p:Nat × Nat):List UInt8:=(l.take p.2).drop p.1
def parts (l:List UInt8):List (List UInt8):=(spans l).map (cutS l)
def pend (l:List UInt8)(k:Nat):Nat:=k+((l.drop k).takeWhile (fun c=>c != 47)).length
theorem pend_le (l:List UInt8)(k:Nat)(hk:k≤l.length):pend l k≤l.length:=by
 unfold pend;have:=(List.takeWhile_sublist (fun c:UInt8=>c != 47) (l:=l.drop k)).length_le;simp at this;omega
theorem pend_gt (l:List UInt8)(k:Nat)(hk:k<l.length)(h:l[k]≠47):k<pend l k:=by
 unfold pend;rw[List.drop_eq_getElem_cons hk,List.takeWhile_cons,if_pos (by simpa using h)];simp
theorem indexByte_eq (l:List UInt8)(c:UInt8):Lib.indexByte l c=if c∈l then((l.takeWhile (fun x=>x != c)).length:Int)else -1:=by
 induction l with
 | nil=>simp[Lib.indexByte]
 | cons b r ih =>
    unfold Lib.indexByte;by_cases hb:b=c
    · subst hb;simp
    · have hcb:c≠b:=fun h=>hb h.symm
      simp only[beq_iff_eq,hb,if_false,ih,List.mem_cons,hcb,false_or];by_cases hm:c∈r
      · simp only[hm,if_true]
        rw[if_neg (by omega)];simp[hb]
      · simp[hm]
theorem takeWhile_all (l:List UInt8)(c:UInt8)(h:c∉l):l.takeWhile (fun x=>x != c)=l:=by
 induction l with
 | nil=>rfl
 | cons b r ih =>
    simp only[List.mem_cons,not_or]at h;(have hb:b≠c:=fun e=>h.1 e.symm);simp[hb,ih h.2]
theorem pend_yes (l:List UInt8)(k:Nat)(h:(47:UInt8)∈l.drop k):(k:Int)+Lib.indexByte (l.drop k) 47=pend l k:=by
 rw[indexByte_eq,if_pos h];unfold pend;simp
theorem pend_no (l:List UInt8)(k:Nat)(hk:k≤l.length)(h:(47:UInt8)∉l.drop k):(l.length:Int)=pend l k:=by
 unfold pend;rw[takeWhile_all _ _ h];simp;omega
theorem index_yes (l:List UInt8)(k:Nat)(h:(47:UInt8)∈l.drop k):0≤Lib.indexByte (l.drop k) 47:=by rw[indexByte_eq,if_pos h];omega
theorem index_no (l:List UInt8)(k:Nat)(h:(47:UInt8)∉l.drop k):Lib.indexByte (l.drop k) 47 = -1:=by rw[indexByte_eq,if_neg h]
theorem sp_some (s:Nat) : ∀(r:List UInt8) (i:Nat),sp i (some s) r=(s,i+(r.takeWhile (fun c=>c != 47)).length)::sp (i+(r.takeWhile (fun c=>c != 47)).length) none (r.drop (r.takeWhile (fun c=>c != 47)).length):=by
 intro r
 induction r with
 | nil=>intro i;simp[sp]
 | cons c r ih =>
    intro i;by_cases hc:c=47
    · subst hc;simp[sp]
    · rw[sp,if_neg hc,ih]
      simp[hc];(have e:i+1+(List.takeWhile (fun c=>c != 47) r).length=i+((List.takeWhile (fun c=>c != 47) r).length+1):=by omega);rw[e];exact⟨rfl,rfl⟩
theorem sp_end (l:List UInt8):sp l.length none (l.drop l.length) = []:=by simp[sp]
theorem sp_slash (l:List UInt8)(k:Nat)(hk:k<l.length)(h:l[k]=47):sp k none (l.drop k)=sp (k+1) none (l.drop (k+1)):=by
 rw[List.drop_eq_getElem_cons hk,sp,if_pos h]
theorem sp_part (l:List UInt8)(k:Nat)(hk:k<l.length)(h:l[k]≠47):sp k none (l.drop k)=(k,pend l k)::sp (pend l k) none (l.drop (pend l k)):=by
 have e:=sp_some k (l.drop k) k
 have e1:sp k (some k) (l.drop k)=sp k none (l.drop k):=by
  rw[List.drop_eq_getElem_cons hk,sp,sp,if_neg h,if_neg h]
 rw[←e1,e];unfold pend;rw[List.drop_drop]
theorem sp_bd : ∀(r:List UInt8) (i:Nat) (st:Option Nat),(∀s,st=some s→s<i)→∀p∈sp i st r,st.getD i≤p.1∧p.1<p.2∧p.2≤i+r.length:=by
 intro r
 induction r with
 | nil =>
    intro i st hst p hp
    cases st with
    | none=>simp[sp]at hp
    | some s=>simp[sp]at hp;subst hp;have:=hst s rfl;simp;omega
 | cons c r ih =>
    intro i st hst p hp
    cases st with
    | none =>
       rw[sp]at hp;split at hp
       · have:=ih (i+1) none (by simp) p hp;simp at this ⊢;omega
       · have:=ih (i+1) (some i) (by simp) p hp;simp at this ⊢;omega
    | some s =>
       have hs:=hst s rfl;rw[sp]at hp;split at hp
       · simp only[List.mem_cons]at hp
         rcases hp with rfl | hp
         · simp;omega
         · have:=ih (i+1) none (by simp) p hp;simp at this ⊢;omega
       · have:=ih (i+1) (some s) (by simp;omega) p hp;simp at this ⊢;omega
theorem spans_bd (l:List UInt8)(p:Nat × Nat)(h:p∈spans l):p.1<p.2∧p.2≤l.length:=by
 have:=sp_bd l 0 none (by simp) p h;simp at this;omega
theorem sp_len : ∀(r:List UInt8) (i:Nat) (st:Option Nat),(sp i st r).length≤r.length+(if st=none then 0 else 1):=by
 intro r
 induction r with
 | nil=>intro i st;cases st<;>simp[sp]
 | cons c r ih =>
    intro i st
    cases st with
    | none =>
       rw[sp];split
       · have:=ih (i+1) none;simp at this ⊢;omega
       · have:=ih (i+1) (some i);simp at this ⊢;omega
    | some s =>
       rw[sp];split
       · have:=ih (i+1) none;simp at this ⊢;omega
       · have:=ih (i+1) (some s);simp at this ⊢;omega
theorem spans_len (l:List UInt8):(spans l).length≤l.length:=by have:=sp_len l 0 none;simpa[spans]using this
end Go.Proofs.YtmiekcdkamgknaaGreatDoor
namespace Go.Proofs.YtmiekcdkamgknaaGreatDoor
open Go.RowKit Go.Shelf
attribute [local go_sem] Oper.semAt_some wide_fn wide_depth
set_option maxHeartbeats 400000 in
theorem partEnd_any (s:ByteArray)(k:Nat)(w:World)(hk:k≤s.size)(hs:s.size≤65000) :
 Calls Tryz.prog 241 #[.string s, .int .i64 k] w fun e w'=>e = .returned (.int .i64 (pend s.data.toList k))∧w=w':=by
 by_cases hm:(47:UInt8)∈s.data.toList.drop k
 · have h0:=index_yes _ _ hm
   have h1:=pend_yes _ _ hm;have h2:=pend_le s.data.toList k (by rw[data_len];exact hk);rw[data_len]at h2;rw[←take_drop]at h0 h1;(have h3:(k:Int)+Lib.indexByte (List.take (s.size-k) (List.drop k s.data.toList)) 47≤65000:=by omega);have H:=Lib.hid h1;clear h1 h2 hm;go_enter Tryz.func241,Tryz.ntmps241;go_wp2_with (go_at_call 210;refine(Tryz.strings_IndexByte _ _ _).mono ?_;rintro e w' ⟨rfl,rfl⟩);go_ret;exact⟨ret_int H.out,rfl⟩
 · have h0:Lib.indexByte (List.take (s.size-k) (List.drop k s.data.toList)) 47<0:=by rw[take_drop,index_no _ _ hm];decide
   have h1:=pend_no s.data.toList k (by rw[data_len];exact hk) hm;rw[data_len]at h1;have H:=Lib.hid h1;clear h1 hm;go_enter Tryz.func241,Tryz.ntmps241;go_wp2_with (go_at_call 210;refine(Tryz.strings_IndexByte _ _ _).mono ?_;rintro e w' ⟨rfl,rfl⟩);go_ret;exact⟨ret_int H.out,rfl⟩
abbrev Span (s:ByteArray):= { p:Nat × Nat // p.1<p.2∧p.2≤s.size}
abbrev encP {s:ByteArray}(p:Span s):Array Value:= #[.int .i64 p.1.1, .int .i64 p.1.2]
set_option maxRecDepth 100000 in
set_option maxHeartbeats 1000000 in
theorem spansIt (s:ByteArray)(hs:s.size≤65000)(l Bn n:Nat)(J Jx:List (Span s)→World→Prop)
 (hY : ∀pre x W,J pre W→pre.length<(spans s.data.toList).length→YieldAt Fence.wide (n-1) Tryz.prog l (encP x) W fun e W' =>
   (e = .returned (.bool true)∧J (pre++ [x]) W'∧KeepsBox Bn W W')∨(e = .returned (.bool false)∧Jx (pre++ [x]) W'))
 (W:World) (hBn:W.cell? ⟨Bn,0,none⟩=some (.string s)) (h0:J [] W) :
 CallsIn Fence.wide n Tryz.prog 240 #[.func (.yield l) #[] #[], .pointer (some ⟨Bn,0,none⟩)] W fun e W'=>(∃v,e = .returned v) ∧
  ((∃ys:List (Span s),ys.map (·.1)=spans s.data.toList∧J ys W')∨(∃pre:List (Span s),pre.map (·.1) <+: spans s.data.toList∧Jx pre W')):=by
   refine callsIn_of_wp Tryz.func240 rfl trivial ?_ rfl;simp only[Tryz.ntmps240,List.size_toArray,List.length_cons,List.length_nil,Nat.reduceAdd,Nat.reduceSub,Array.replicate_succ,Array.replicate_zero,List.push_toArray,List.append_toArray,List.nil_append,List.cons_append]
   gi_wp2
   gi_loopw [3] (fun i wr=>∃(pre:List (Span s)) (k:Nat),i = .int .i64 k∧k≤s.size∧pre.map (·.1)++sp k none (s.data.toList.drop k)=spans s.data.toList∧wr.cell? ⟨Bn,0,none⟩=some (.string s)∧J pre wr)
    (fun i _=>s.size-(intOf i).toNat)
   case atStart=>exact⟨[],0,rfl,Nat.zero_le _,rfl,hBn,h0⟩
   case round =>
    obtain⟨pre,k,rfl,hk,hpre,hB,hJ⟩:=hrel;have Hpre:=Lib.hid hpre;clear hpre;by_cases hlt:k<s.size
    · by_cases hc:s[k]=47
      · have hcI:((s[k].toNat:Int) == 47)=true:=by rw[hc];rfl
        have Hc:=Lib.hid hc;clear hc
        gi_wp2
        go_roundw
        case rel=>exact⟨pre,k+1,by go_num,by omega,by rw[←sp_slash _ _ (by rw[data_len];exact hlt) Hc.out];exact Hpre.out,hB,hJ⟩
        case measure=>simp[intOf];omega
      · have hcI:((s[k].toNat:Int) == 47)=false:=by
         rw[beq_eq_false_iff_ne];intro h;exact hc (UInt8.toNat_inj.1 (by have e:(47:UInt8).toNat=47:=rfl;omega))
        have hpe:=pend_le s.data.toList k (by rw[data_len];omega);rw[data_len]at hpe;have hpg:=pend_gt s.data.toList k (by rw[data_len];exact hlt) hc;have hsp:=Hpre.out;rw[sp_part _ _ (by rw[data_len];exact hlt) hc]at hsp;(have hln:pre.length<(spans s.data.toList).length:=by rw[←hsp];simp);have hpx:k<pend s.data.toList k∧pend s.data.toList k≤s.size:=⟨hpg,hpe⟩;obtain⟨fn,tmps,assign,body,hy,hR⟩:=hY pre ⟨(k,pend s.data.toList k),hpx⟩ wr hJ hln;have Hsp:=Lib.hid hsp;clear hsp hc hln;dsimp only[encP]at hy
        gi_wp2_with (gi_at_call 241;refine(callsIn_wide.2 (partEnd_any _ _ _ (by omega) (by omega))).mono ?_;rintro e w' ⟨rfl,rfl⟩)
        refine hR.mono ?_;rintro e W3 (⟨rfl,hJ3,hk3⟩ | ⟨rfl,hJx3⟩)
        · have hB3:W3.cell? ⟨Bn,0,none⟩=some (.string s):=Eq.trans hk3 hB
          gi_wp2
          go_roundw
          case rel=>exact⟨pre++ [⟨(k,pend s.data.toList k),hpx⟩],pend s.data.toList k,rfl,hpe,by simpa using Hsp.out,hB3,hJ3⟩
          case measure=>simp[intOf];omega
        · gi_wp2
          refine bodyPost_ret (results_none rfl _ _ _) rfl ?_;exact⟨⟨_,rfl⟩, .inr ⟨pre++ [⟨(k,pend s.data.toList k),hpx⟩],⟨_,by simpa using Hsp.out⟩,hJx3⟩⟩
    · obtain rfl:k=s.size:=by omega
      gi_wp2
      go_end0;refine⟨⟨_,rfl⟩, .inl ⟨pre,?_,hJ⟩⟩;(have e:sp s.size none (s.data.toList.drop s.size) = []:=by have:=sp_end s.data.toList;rwa [data_len]at this);have:=Hpre.out;rw[e]at this;simpa using this
theorem spans_any (s:ByteArray)(w:World) :
 Calls Tryz.prog 228 #[.string s] w fun e w'=>e = .returned (.func (.func 240) #[] #[.pointer (some ⟨w.heap.size,0,none⟩)])∧w'=w.alloc (.cells #[.string s] 9):=by
 go_enter Tryz.func228,Tryz.ntmps228;go_wp2;go_ret;exact⟨rfl,rfl⟩
theorem spans_stops (s:ByteArray)(hs:s.size≤65000)(n Bn:Nat)(w:World)(hBn:Bn<w.heap.size)(hc:w.cell? ⟨Bn,0,none⟩=some (.string s)) :
 SeqStopsK Fence.wide n Tryz.prog 240 #[.pointer (some ⟨Bn,0,none⟩)] (encP (s:=s)) (KeepsBox Bn) (fun ys=>ys.map (·.1)=spans s.data.toList) (fun pre=>pre.map (·.1) <+: spans s.data.toList) (spans s.data.toList).length w:=fun l J Jx W hW _ _ hY h0 =>
 spansIt s hs l Bn n J Jx hY W ((hW.cell (p:=⟨Bn,0,none⟩) hBn).trans hc) h0
end Go.Proofs.YtmiekcdkamgknaaGreatDoor
namespace Go.Proofs.YtmiekcdkamgknaaGreatDoor
open Go.RowKit Go.Shelf
attribute [local go_sem] Oper.semAt_some wide_fn wide_depth
theorem infoStr:(Tryz.prog.info? 9).map (fun i=>(i.zero,i.size,i.bytes))=some (some (.string ByteArray.empty),1,16):=by kernel_rfl
set_option maxRecDepth 100000 in
set_option maxHeartbeats 1000000 in
theorem split_any (s:ByteArray)(hs:s.size≤65000)(w:World) :
 Calls Tryz.prog 215 #[.string s] w fun e W'=>∃v,e = .returned (.tuple #[v, .bool (Lib.hasPrefix s.data.toList [47]), .bool (Lib.hasSuffix s.data.toList [47])]) ∧
  W'.ownsRow w.heap.size 9 1 v (parts s.data.toList).length (strs (parts s.data.toList))∧Below w.heap.size w W':=by
 refine(callsIn_wide (n:=5)).1 ?_;obtain⟨i0,hi,hz0,hz1,hz2⟩:=info_parts infoStr;refine callsIn_of_wp_marks Tryz.func215 rfl trivial ?_ rfl;simp only[Tryz.ntmps215,List.size_toArray,List.length_cons,List.length_nil,Nat.reduceAdd,Nat.reduceSub,Array.replicate_succ,Array.replicate_zero,List.push_toArray,List.append_toArray,List.nil_append,List.cons_append]
 gi_wp2_with (gi_at_call 228;refine(callsIn_wide.2 (spans_any _ _)).mono ?_;rintro e w' ⟨rfl,rfl⟩)
 have bP:=((Boxed.new w 9 (.string s)).alloc (.cells #[.slice none 0 0] 36)).alloc (.cells #[.string s] 9);have bO:=(Boxed.new (w.alloc (.cells #[.string s] 9)) 36 (.slice none 0 0)).alloc (.cells #[.string s] 9);have bB:=Boxed.new ((w.alloc (.cells #[.string s] 9)).alloc (.cells #[.slice none 0 0] 36)) 9 (.string s);rw[World.size_alloc]at bO bB;rw[World.size_alloc]at bB;have hB0:Below w.heap.size w (((w.alloc (.cells #[.string s] 9)).alloc (.cells #[.slice none 0 0] 36)).alloc (.cells #[.string s] 9)):=(((Below.refl _ w).alloc (Nat.le_refl _) _).alloc (by simp) _).alloc (by simp;omega) _
 refine wpIn_rangeFunc_ownG rfl (by decide) (gf:=240) (lb:= #[.pointer (some ⟨w.heap.size+1+1,0,none⟩)]) rfl trivial (enters_of Tryz.func240 (by kernel_rfl) rfl)
  (spans_stops s hs (5-1) (w.heap.size+1+1) _ (by simp) bB.cell) keepsBox_t (keepsBox_b (by simp)) (Below.refl _ _) (fun _=>rfl)
  (fun pre W=>(∃v,Boxed W (w.heap.size+1) 36 v∧W.ownsRow w.heap.size 9 1 v pre.length (strs (pre.map fun p=>cutS s.data.toList p.1))∧(∀g,v.ownBlock=some g→w.heap.size+3≤g))∧Boxed W w.heap.size 9 (.string s)∧Boxed W (w.heap.size+1+1) 9 (.string s)∧Below w.heap.size w W)
  (fun _ _ _=>False)
  (OwnFrom.and (Own.from (holdsRow_own w.heap.size (w.heap.size+1) 36 9 1 (fun pre:List (Span s)=>pre.length) (fun pre=>strs (pre.map fun p=>cutS s.data.toList p.1)) (fun _ v=>∀g,v.ownBlock=some g→w.heap.size+3≤g)) _)
    (OwnFrom.and (Own.from (boxed_own _ _ _) _) (OwnFrom.and (Own.from (boxed_own _ _ _) _) (ownFrom_below (Nat.le_refl _) (by simp;omega)))))
  (fun _ _ _ _ _ hs _ _=>hs)
  ⟨⟨_,bO,World.ownsRow_nil _ _ _ _,fun _ h=>(by cases h)⟩,bP,bB,hB0⟩
  (fun x=> { tmps:= #[.string s, .pointer (some ⟨w.heap.size,0,none⟩), .slice none 0 0, .bool false, .bool false, .pointer (some ⟨w.heap.size+1,0,none⟩), .int .i64 x.1.1, .int .i64 x.1.2, .string s,
    .func (.func 240) #[] #[.pointer (some ⟨w.heap.size+1+1,0,none⟩)], .int .i64 x.1.1, .int .i64 x.1.2,undef,undef,undef,undef,undef,undef,undef,undef,undef,undef,undef,undef],defers:= []}) ?assign ?body ?done ?stop
 case assign =>
  intro l x W K hK;dsimp only[encP]
  gi_wp2
  exact hK
 case body =>
  rintro l pre ⟨⟨x,y⟩,hxy,hy⟩ W ⟨⟨v,hv,hrow,hfar⟩,hp,hb,hB⟩ hlt;dsimp only at hxy hy ⊢
  gi_wp2
  refine region_round_inv (I:=fun listed a' w'=>∃(b0 b1 b2 b3 b4 b5 b6 b7:Bool) (t12 t13 t14 t15 t16 t17 t18:Value),listed = #[b0,b1,b2,b3,b4,b5,b6,b7] ∧
   a' = { tmps:= #[.string s, .pointer (some ⟨w.heap.size,0,none⟩), .slice none 0 0, .bool false, .bool false, .pointer (some ⟨w.heap.size+1,0,none⟩), .int .i64 x, .int .i64 y, .string s,
    .func (.func 240) #[] #[.pointer (some ⟨w.heap.size+1+1,0,none⟩)], .int .i64 x, .int .i64 y,t12,t13,t14,t15,t16,t17,t18,undef,undef,undef,undef,undef],defers:= []} ∧
   (b0=true→t12=v)∧(b1=true→t13 = .string s)∧(b2=true→t14 = .int .i64 x)∧(b3=true→t15 = .int .i64 y)∧(b4=true→t16 = .string ⟨(cutS s.data.toList (x,y)).toArray⟩) ∧
   (b4=true→b1=true∧b2=true∧b3=true)∧(b5=true→b4=true)∧(b6=true→b0=true∧b5=true)∧(b7=true→b6=true)∧(b5=false→w'=W.drew) ∧
   (b5=true→b6=false→t17 = .slice (some ⟨W.heap.size,0,none⟩) 1 1∧w'=W.drew.alloc (.cells #[.string ⟨(cutS s.data.toList (x,y)).toArray⟩] 9)) ∧
   (b6=true→b7=false→∃g cap,t18 = .slice (some ⟨g,0,none⟩) (pre.length+1) cap∧w'.ownsRow w.heap.size 9 1 t18 (pre.length+1) (strs (pre.map fun p=>cutS s.data.toList p.1)++ [.string ⟨(cutS s.data.toList (x,y)).toArray⟩]) ∧
     (W.drew.alloc (.cells #[.string ⟨(cutS s.data.toList (x,y)).toArray⟩] 9)).grownBy w' v.ownBlock∧(v.ownBlock=some g∨g=W.heap.size+1)) ∧
   (b7=true→∃w1 g cap,w1.ownsRow w.heap.size 9 1 (.slice (some ⟨g,0,none⟩) (pre.length+1) cap) (pre.length+1) (strs (pre.map fun p=>cutS s.data.toList p.1)++ [.string ⟨(cutS s.data.toList (x,y)).toArray⟩]) ∧
     (W.drew.alloc (.cells #[.string ⟨(cutS s.data.toList (x,y)).toArray⟩] 9)).grownBy w1 v.ownBlock∧(v.ownBlock=some g∨g=W.heap.size+1)∧w'=w1.setCell ⟨w.heap.size+1,0,none⟩ (.slice (some ⟨g,0,none⟩) (pre.length+1) cap)))
   (by kernel_rfl) (by kernel_rfl) (fun⟨_,_,h⟩=>h) ?start ?step ?fin
  case start=>exact⟨false,false,false,false,false,false,false,false,undef,undef,undef,undef,undef,undef,undef,rfl,rfl,by simp,by simp,by simp,by simp,by simp,by simp,by simp,by simp,by simp,fun _=>rfl,by simp,by simp,by simp⟩
  case step =>
   rintro listed i o a' w' K hsz hi ho ⟨b0,b1,b2,b3,b4,b5,b6,b7,t12,t13,t14,t15,t16,t17,t18,rfl,rfl,h12,h13,h14,h15,h16,c4,c5,c6,c7,hw0,hw1,hw2,hw3⟩ hK;obtain⟨h1,o',ho',hall⟩:=mem_ready.1 hi;obtain rfl:o'=o:=Option.some.inj (ho'.symm.trans ho);have hlt:i<8:=(Array.getElem?_eq_some_iff.1 ho).1;clear hi ho';(have hcas:i=0∨i=1∨i=2∨i=3∨i=4∨i=5∨i=6∨i=7:=by omega);rcases hcas with rfl | rfl | rfl | rfl | rfl | rfl | rfl | rfl
   all_goals
    simp only[List.getElem?_toArray,List.getElem?_cons_zero,List.getElem?_cons_succ,Option.some.injEq]at ho;subst ho;simp[Region.binds]at hall h1
   · -- the load of the list's box
     subst h1;obtain rfl:=bf (fun h=>(c6 h).1) rfl;obtain rfl:=bf c7 rfl
     have hc:w'.cell? ⟨w.heap.size+1,0,none⟩=some v:=by
      cases b5
      · rw[hw0 rfl];exact hv.cell
      · rw[(hw1 rfl rfl).2];exact(Boxed.alloc (W:=W.drew) hv _).cell
     go_simp;exact hK _ _ ⟨true,b1,b2,b3,b4,b5,false,false,v,t13,t14,t15,t16,t17,t18,rfl,rfl,fun _=>rfl,h13,h14,h15,h16,c4,c5,by simp,by simp,hw0,hw1,by simp,by simp⟩
   · -- the load of the path's box
     subst h1;obtain rfl:=bf (fun h=>(c4 h).1) rfl;obtain rfl:=bf c5 rfl;obtain rfl:=bf (fun h=>(c6 h).2) rfl;obtain rfl:=bf c7 rfl;obtain rfl:=hw0 rfl;have hc:W.cell? ⟨w.heap.size,0,none⟩=some (.string s):=hp.cell;go_simp;exact hK _ _ ⟨b0,true,b2,b3,false,false,false,false,t12,_,t14,t15,t16,t17,t18,rfl,rfl,h12,fun _=>rfl,h14,h15,h16,by simp,by simp,by simp,by simp,hw0,hw1,by simp,by simp⟩
   · subst h1
     obtain rfl:=bf (fun h=>(c4 h).2.1) rfl;go_simp;exact hK _ _ ⟨b0,b1,true,b3,false,b5,b6,b7,t12,t13,_,t15,t16,t17,t18,rfl,rfl,h12,h13,fun _=>rfl,h15,h16,by simp,c5,c6,c7,hw0,hw1,hw2,hw3⟩
   · subst h1
     obtain rfl:=bf (fun h=>(c4 h).2.2) rfl;go_simp;exact hK _ _ ⟨b0,b1,b2,true,false,b5,b6,b7,t12,t13,t14,_,t16,t17,t18,rfl,rfl,h12,h13,h14,fun _=>rfl,h16,by simp,c5,c6,c7,hw0,hw1,hw2,hw3⟩
   · -- the piece
     subst h1;obtain⟨rfl,rfl,rfl⟩:=hall;obtain rfl:=h13 rfl;obtain rfl:=h14 rfl;obtain rfl:=h15 rfl;(have g1:(0:Int)≤x:=by omega);(have g2:(x:Int)≤y:=by omega);(have g3:(y:Int)≤s.size:=by omega);go_simp;refine hK _ _ ⟨b0,true,true,true,true,b5,b6,b7,t12,_,_,_,_,t17,t18,rfl,rfl,h12,fun _=>rfl,fun _=>rfl,fun _=>rfl,fun _=> ?_,by simp,fun _=>rfl,c6,c7,hw0,hw1,hw2,hw3⟩;rw[extract_eq];rfl
   · -- the new block
     subst h1;subst hall;obtain rfl:=bf (fun h=>(c6 h).2) rfl;obtain rfl:=bf c7 rfl;obtain rfl:=hw0 rfl;obtain⟨rfl,rfl,rfl⟩:=c4 rfl;obtain rfl:=h13 rfl;obtain rfl:=h14 rfl;obtain rfl:=h15 rfl;obtain rfl:=h16 rfl;go_simp;refine hK _ _ ⟨b0,true,true,true,true,true,false,false,t12,_,_,_,_,_,t18,rfl,rfl,h12,fun _=>rfl,fun _=>rfl,fun _=>rfl,fun _=>rfl,by simp,fun _=>rfl,by simp,by simp,by simp,fun _ _=>⟨?_,?_⟩,by simp,by simp⟩
     all_goals rfl
   · -- the append
     subst h1;obtain⟨rfl,rfl⟩:=hall;obtain rfl:=bf c7 rfl;obtain⟨rfl,rfl⟩:=hw1 rfl rfl;obtain rfl:=h12 rfl;(have hnl:pre.length≤65000:=by have:=spans_len s.data.toList;rw[data_len]at this;omega);refine step_append_lies _ rfl (.tmp 12) (.tmp 17) 36 rfl w.heap.size 9 i0 (.string ByteArray.empty) 1 16 Tryz.underlying36 hi hz0 hz1 hz2 rfl (by decide) t12 pre.length _ rfl (World.ownsRow.alloc (w:=W.drew) hrow _) ⟨W.heap.size,0,none⟩ 1 1 [.string ⟨(cutS s.data.toList (x,y)).toArray⟩] rfl rfl ?_ ?_ (by decide) ?_ ?_ ?_ (W.heap.size+1) ?_ ?_
     · intro j u hj
       cases j with
       | zero=>simp only[List.getElem?_cons_zero,Option.some.injEq]at hj;subst hj;exact(Boxed.new W.drew 9 _).cell
       | succ j=>simp at hj
     · intro u hu;simp only[List.mem_singleton]at hu;subst hu;rfl
     · unfold maxLen;omega
     · omega
     · have:=hB.size;rw[World.size_alloc];exact Nat.le_succ_of_le this
     · rw[World.size_alloc];rfl
     · intro g cap w1 h1 h2 hlie _
       exact hK _ _ ⟨true,b1,b2,b3,b4,true,true,false,t12,t13,t14,t15,t16,_,_,rfl,rfl,fun _=>rfl,h13,h14,h15,h16,c4,c5,by simp,by simp,by simp,by simp,fun _ _=>⟨g,cap,rfl,h1,h2,hlie⟩,by simp⟩
   · -- the store
     subst h1;(obtain rfl:b6=true:=by simp_all only);obtain⟨rfl,rfl⟩:=c6 rfl;obtain rfl:=c5 rfl;obtain⟨rfl,rfl,rfl⟩:=c4 rfl;obtain rfl:=h12 rfl;obtain rfl:=h13 rfl;obtain rfl:=h14 rfl;obtain rfl:=h15 rfl;obtain rfl:=h16 rfl;obtain⟨g,cap,rfl,h2,h3,h4⟩:=hw2 rfl rfl;have hv1:=(Boxed.appended (W:=W.drew) hv (by decide) (World.ownsRow.drew hrow) hB.size (Nat.le_succ _) h2 h3).1;have hc1:=hv1.cell;have hf1:=hv1.frozen;clear hw0 hw1 hw2 hw3 hall;go_simp;exact hK _ _ ⟨true,true,true,true,true,true,true,true,_,_,_,_,_,t17,_,rfl,rfl,fun _=>rfl,fun _=>rfl,fun _=>rfl,fun _=>rfl,fun _=>rfl,by simp,by simp,by simp,by simp,by simp,by simp,by simp,fun _=>⟨w',g,cap,h2,h3,h4,rfl⟩⟩
  case fin =>
   rintro listed a' w' hsz ⟨b0,b1,b2,b3,b4,b5,b6,b7,t12,t13,t14,t15,t16,t17,t18,rfl,rfl,h12,h13,h14,h15,h16,c4,c5,c6,c7,hw0,hw1,hw2,hw3⟩ hr;have hb7:=ready_all (by kernel_rfl) hsz hr 7 (by decide);obtain rfl:b7=true:=hb7;obtain⟨w1,g,cap,h2,h3,h4,rfl⟩:=hw3 rfl;obtain⟨_,q2,q3,q4,q5⟩:=Boxed.appended (W:=W.drew) hv (by decide) (World.ownsRow.drew hrow) hB.size (Nat.le_succ _) h2 h3;(have np:some w.heap.size≠v.ownBlock:=fun e=>by have:=hfar _ e.symm;omega);(have nb:some (w.heap.size+1+1)≠v.ownBlock:=fun e=>by have:=hfar _ e.symm;omega);have hp1:=((Boxed.alloc (W:=W.drew) hp _).kept h3 np).other (B':=w.heap.size+1) (by omega) (.slice (some ⟨g,0,none⟩) (pre.length+1) cap);have hb1:=((Boxed.alloc (W:=W.drew) hb _).kept h3 nb).other (B':=w.heap.size+1) (by omega) (.slice (some ⟨g,0,none⟩) (pre.length+1) cap)
   have hg:w.heap.size+3≤g:=by
    rcases h4 with h4 | h4
    · exact hfar _ h4
    · have:=hb.lt;omega
   refine⟨((KeepsOthers.drew W).trans q4).from _,?_,⟨_,q2,?_,fun g' e=>by cases e;exact hg⟩,hp1,hb1,hB.trans (((Below.refl _ W).drew).trans q5)⟩
   · unfold KeepsBox;rw[hb1.cell,hb.cell]
   · simpa[strs]using q3
 case done =>
  rintro D ys W hD hys ⟨⟨v,hv,hrow,hfar⟩,hp,hb,hB⟩ hK;have hc1:=hv.cell;have hc2:=hp.cell
  gi_wp2
  refine wpIn_wide.2 ?_;go_quiet ((first | (go_at_call 229;exact Calls.quiet_of_same ((Tryz.strings_HasPrefix _ _ _).mono fun e w' h=>⟨h.1,h.2⟩)) | (go_at_call 174;exact Calls.quiet_of_same ((Tryz.strings_HasSuffix _ _ _ (by omega)).mono fun e w' h=>⟨h.1,h.2⟩))))
  gi_wp2
  refine⟨by simp, .inl ⟨_,_,rfl,run_takeDeferred (w:=W.drewN nq) hK,?_⟩⟩;(have e1:(spans s.data.toList).length=ys.length:=by rw[←hys];simp);(have e2:parts s.data.toList=ys.map fun p=>cutS s.data.toList p.1:=by unfold parts;rw[←hys,List.map_map];rfl);refine⟨.tuple #[v, .bool (Lib.hasPrefix s.data.toList [47]), .bool (Lib.hasSuffix s.data.toList [47])],?_,v,rfl,?_,?_⟩
  · simp[results,Tryz.results215,go_sem]
  · rw[e2,List.length_map]
    exact ownsRow_putObj (ownsRow_drewN hrow nq) _ hK rfl
  · exact(below_drewN hB nq).trans (belowK_b (w:=w) (Nat.le_refl _) _ D _ _ (by simp at hD;omega) hK rfl rfl)
 case stop =>
  rintro D c pre W _ _ h _;exact h.elim
end Go.Proofs.YtmiekcdkamgknaaGreatDoor
namespace Go.Proofs.YtmiekcdkamgknaaGreatDoor
open Go.RowKit Go.Shelf
attribute [local go_sem] Oper.semAt_some wide_fn wide_depth
end Go.Proofs.YtmiekcdkamgknaaGreatDoor
namespace Go.Proofs.YtmiekcdkamgknaaGreatDoor
open Go.RowKit Go.Shelf
attribute [local go_sem] Oper.semAt_some wide_fn wide_depth
def checkE (l:List UInt8):Int :=
 if l = []then 2 else if 100<l.length then 9 else if(0:UInt8)∈l then 1 else if(spans l).any (fun p=>decide (12<p.2-p.1))then 9 else 0
theorem isEmpty_no (s:ByteArray)(h:s.data.toList≠ []):s.toList.isEmpty=false:=by
 rw[Lib.toList_data];cases e:s.data.toList with | nil=>exact absurd e h | cons a r=>rfl
theorem isEmpty_yes (s:ByteArray)(h:s.data.toList = []):s.toList.isEmpty=true:=by rw[Lib.toList_data,h];rfl
theorem check_e0 {l:List UInt8}(h:l = []):checkE l=2:=by unfold checkE;rw[if_pos h]
theorem check_e1 {l:List UInt8}(h:l≠ [])(h2:100<l.length):checkE l=9:=by unfold checkE;rw[if_neg h,if_pos h2]
theorem check_e2 {l:List UInt8}(h:l≠ [])(h2: ¬100<l.length)(h3:(0:UInt8)∈l):checkE l=1:=by unfold checkE;rw[if_neg h,if_neg h2,if_pos h3]
theorem check_e3 {l:List UInt8}(h:l≠ [])(h2: ¬100<l.length)(h3:(0:UInt8)∉l)(h4 : ∃p∈spans l,12<p.2-p.1):checkE l=9:=by
 unfold checkE;rw[if_neg h,if_neg h2,if_neg h3,if_pos];obtain⟨p,hp,hl⟩:=h4;exact List.any_eq_true.2 ⟨p,hp,by simpa using hl⟩
theorem check_e4 {l:List UInt8}(h:l≠ [])(h2: ¬100<l.length)(h3:(0:UInt8)∉l)(h4 : ∀p∈spans l,p.2-p.1≤12):checkE l=0:=by
 unfold checkE;rw[if_neg h,if_neg h2,if_neg h3,if_neg];intro hc;obtain⟨p,hp,hl⟩:=List.any_eq_true.1 hc;have:=h4 p hp;simp at hl;omega
def AllSmall {s:ByteArray}(pre:List (Span s)):Prop:=∀p∈pre,p.1.2-p.1.1≤12
def SomeBig {s:ByteArray}(pre:List (Span s)):Prop:=∃p∈pre,12<p.1.2-p.1.1
set_option maxRecDepth 100000 in
set_option maxHeartbeats 1000000 in
theorem check_walk (s:ByteArray)(hs:s.size≤65000)(w:World)(h1:s.data.toList≠ [])(h2: ¬100<s.data.toList.length)(h3:(0:UInt8)∉s.data.toList) :
 Calls Tryz.prog 214 #[.string s] w fun e W'=>e = .returned (.int .i64 (checkE s.data.toList))∧Below w.heap.size w W':=by
 have n1:=isEmpty_no s h1;(have n2:s.size≤100:=by rw[data_len]at h2;omega);(have n3:Lib.indexByte s.data.toList 0<0:=by rw[indexByte_eq,if_neg h3];decide);(have m2:decide ((100:Int)<(s.size:Int))=false:=by simp;omega);(have m3:decide (0≤Lib.indexByte s.data.toList 0)=false:=by simp;omega);have H1:=Lib.hid h1;have H2:=Lib.hid h2;have H3:=Lib.hid h3;clear h1 h2 h3;refine(callsIn_wide (n:=5)).1 ?_;refine callsIn_of_wp_marks Tryz.func214 rfl trivial ?_ rfl;simp only[Tryz.ntmps214,List.size_toArray,List.length_cons,List.length_nil,Nat.reduceAdd,Nat.reduceSub,Array.replicate_succ,Array.replicate_zero,List.push_toArray,List.append_toArray,List.nil_append,List.cons_append]
 gi_wp2_with (first | (gi_at_call 210;refine(callsIn_wide.2 (Tryz.strings_IndexByte _ _ _)).mono ?_;rintro e w' ⟨rfl,rfl⟩) | (gi_at_call 228;refine(callsIn_wide.2 (spans_any _ _)).mono ?_;rintro e w' ⟨rfl,rfl⟩))
 have bO:=(Boxed.new w 33 (.int .i64 0)).alloc (.cells #[.string s] 9);have bB:=Boxed.new (w.alloc (.cells #[.int .i64 0] 33)) 9 (.string s);rw[World.size_alloc]at bB;have hB0:Below w.heap.size w ((w.alloc (.cells #[.int .i64 0] 33)).alloc (.cells #[.string s] 9)):=((Below.refl _ w).alloc (Nat.le_refl _) _).alloc (by simp) _
 refine wpIn_rangeFunc_ownG rfl (by decide) (gf:=240) (lb:= #[.pointer (some ⟨w.heap.size+1,0,none⟩)]) rfl trivial (enters_of Tryz.func240 (by kernel_rfl) rfl)
  (spans_stops s hs (5-1) (w.heap.size+1) _ (by simp) bB.cell) keepsBox_t (keepsBox_b (by simp)) (Below.refl _ _) (fun _=>rfl)
  (fun pre W=>Boxed W w.heap.size 33 (.int .i64 0)∧Boxed W (w.heap.size+1) 9 (.string s)∧Below w.heap.size w W∧AllSmall pre)
  (fun c pre W=>c = .ret∧Boxed W w.heap.size 33 (.int .i64 9)∧Below w.heap.size w W∧SomeBig pre)
  (OwnFrom.and (Own.from (boxed_own _ _ _) _) (OwnFrom.and (Own.from (boxed_own _ _ _) _) (OwnFrom.and (ownFrom_below (Nat.le_refl _) (by simp;omega)) (ownFrom_pure _ (fun pre:List (Span s)=>AllSmall pre)))))
  (fun c=>OwnFrom.and (ownFrom_pure _ (fun _=>c = .ret)) (OwnFrom.and (Own.from (boxed_own _ _ _) _) (OwnFrom.and (ownFrom_below (Nat.le_refl _) (by simp;omega)) (ownFrom_pure _ (fun pre:List (Span s)=>SomeBig pre)))))
  ⟨bO,bB,hB0,by simp[AllSmall]⟩
  (fun x=> { tmps:= #[.string s,undef, .pointer (some ⟨w.heap.size,0,none⟩), .int .i64 x.1.1, .int .i64 x.1.2, .bool false, .string s, .bool false, .bool false, .string s, .int .i64 s.size, .bool false, .bool false, .string s,
    .int .i64 (Lib.indexByte s.data.toList 0), .bool false, .string s, .func (.func 240) #[] #[.pointer (some ⟨w.heap.size+1,0,none⟩)], .int .i64 x.1.1, .int .i64 x.1.2,undef,undef,undef,undef],defers:= []}) ?assign ?body ?done ?stop
 case assign =>
  intro l x W K hK;dsimp only[encP]
  gi_wp2
  exact hK
 case body =>
  rintro l pre ⟨⟨x,y⟩,hxy,hy⟩ W ⟨hv,hb,hB,hall⟩ hlt;dsimp only at hxy hy ⊢;have hc:=hv.cell;have hf:=hv.frozen;have HA:=Lib.hid hall;clear hall;by_cases hd:12<y-x
  · have hd1:(12:Int)<(y:Int)-x:=by omega
    gi_wp2
    refine⟨(KeepsOthers.setCell _ _ _).from _,rfl,hv.set _,hB.setCell (p:=⟨w.heap.size,0,none⟩) (Nat.le_refl _) _,?_⟩;exact⟨⟨(x,y),hxy,hy⟩,by simp,hd⟩
  · have hd1: ¬(12:Int)<(y:Int)-x:=by omega
    gi_wp2
    refine⟨KeepsFrom.refl _ _,rfl,hv,hb,hB,?_⟩;intro p hp;rcases List.mem_append.1 hp with hp | hp
    · exact HA.out p hp
    · obtain rfl:=List.mem_singleton.1 hp
      show y-x≤12;omega
 case done =>
  rintro D ys W hD hys ⟨hv,hb,hB,hall⟩ hK;have hc:=hv.cell;have hf:=hv.frozen
  have e0:checkE s.data.toList=0:=check_e4 H1.out H2.out H3.out fun p hp=>by
   rw[←hys]at hp;obtain⟨q,hq,rfl⟩:=List.mem_map.1 hp;exact hall q hq
  have E0:=Lib.hid e0;clear e0 hys hall
  gi_wp2
  have hK':=(KeepsOthers.setCell W ⟨w.heap.size,0,none⟩ (.int .i64 0)).same D _ hK rfl;refine⟨by simp, .inl ⟨_,_,rfl,run_takeDeferred hK',?_⟩⟩;have hc5:=cell_kept (hv.set (.int .i64 0)).cell (grownBy_putObj' _ D (.deferred none)) (fun r e=>by cases e;exact⟨_,hK',rfl⟩);refine⟨.int .i64 0,?_,by rw[E0.out],?_⟩
  · simp[results,Tryz.f214,go_sem,hc5]
  · exact(hB.setCell (p:=⟨w.heap.size,0,none⟩) (Nat.le_refl _) _).trans (belowK_b (w:=w) (Nat.le_refl _) _ D _ _ (by simp at hD;omega) hK' rfl rfl)
 case stop =>
  rintro D c pre W hD hpre ⟨rfl,hv,hB,hex⟩ hK;have hc:=hv.cell
  have e0:checkE s.data.toList=9:=check_e3 H1.out H2.out H3.out (by
   obtain⟨p,hp,hl⟩:=hex
   exact⟨p.1,hpre.subset (List.mem_map.2 ⟨p,hp,rfl⟩),hl⟩)
  have E0:=Lib.hid e0;clear e0 hpre hex
  gi_wp2
  refine⟨by simp, .inl ⟨_,_,rfl,run_takeDeferred hK,?_⟩⟩;have hc5:=cell_kept hv.cell (grownBy_putObj' _ D (.deferred none)) (fun r e=>by cases e;exact⟨_,hK,rfl⟩);refine⟨.int .i64 9,?_,by rw[E0.out],?_⟩
  · simp[results,Tryz.f214,go_sem,hc5]
  · exact hB.trans (belowK_b (w:=w) (Nat.le_refl _) _ D _ _ (by simp at hD;omega) hK rfl rfl)
set_option maxHeartbeats 400000 in
theorem check_any (s:ByteArray)(hs:s.size≤65000)(w:World) :
 Calls Tryz.prog 214 #[.string s] w fun e W'=>e = .returned (.int .i64 (checkE s.data.toList))∧Below w.heap.size w W':=by
 by_cases h1:s.data.toList = []
 · have n1:=isEmpty_yes s h1
   have E:=Lib.hid (check_e0 h1);clear h1;go_enter Tryz.func214,Tryz.ntmps214;go_wp2;exact bodyPost_ret (v:= .int .i64 2) (by simp[results,Tryz.f214,go_sem]) rfl ⟨by rw[E.out],(Below.refl _ _).alloc (Nat.le_refl _) _⟩
 · by_cases h2:100<s.data.toList.length
   · have E:=Lib.hid (check_e1 h1 h2)
     have n1:=isEmpty_no s h1;(have n2:100<s.size:=by rw[data_len]at h2;omega);clear h1 h2;go_enter Tryz.func214,Tryz.ntmps214;go_wp2;exact bodyPost_ret (v:= .int .i64 9) (by simp[results,Tryz.f214,go_sem]) rfl ⟨by rw[E.out],(Below.refl _ _).alloc (Nat.le_refl _) _⟩
   · by_cases h3:(0:UInt8)∈s.data.toList
     · have E:=Lib.hid (check_e2 h1 h2 h3)
       have n1:=isEmpty_no s h1;(have n2:s.size≤100:=by rw[data_len]at h2;omega);(have n3:0≤Lib.indexByte s.data.toList 0:=by rw[indexByte_eq,if_pos h3];omega);clear h1 h2 h3;go_enter Tryz.func214,Tryz.ntmps214;go_wp2_with (go_at_call 210;refine(Tryz.strings_IndexByte _ _ _).mono ?_;rintro e w' ⟨rfl,rfl⟩);exact bodyPost_ret (v:= .int .i64 1) (by simp[results,Tryz.f214,go_sem]) rfl ⟨by rw[E.out],(Below.refl _ _).alloc (Nat.le_refl _) _⟩
     · exact check_walk s hs w h1 h2 h3
end Go.Proofs.YtmiekcdkamgknaaGreatDoor
namespace Go.Proofs.YtmiekcdkamgknaaGreatDoor
open Go.RowKit Go.Shelf
attribute [local go_sem] Oper.semAt_some wide_fn wide_depth
end Go.Proofs.YtmiekcdkamgknaaGreatDoor
namespace Go.Proofs.YtmiekcdkamgknaaGreatDoor
open Go.RowKit Go.Shelf
end Go.Proofs.YtmiekcdkamgknaaGreatDoor
namespace Go.Proofs.YtmiekcdkamgknaaGreatDoor
theorem sp_none_part (l:List UInt8)(k:Nat)(hk:k<l.length)(h:l[k]≠47):sp k none (l.drop k)=sp (k+1) (some k) (l.drop (k+1)):=by
 rw[List.drop_eq_getElem_cons hk,sp,if_neg h]
theorem sp_some_slash (l:List UInt8)(s k:Nat)(hk:k<l.length)(h:l[k]=47):sp k (some s) (l.drop k)=(s,k)::sp (k+1) none (l.drop (k+1)):=by
 rw[List.drop_eq_getElem_cons hk,sp,if_pos h]
theorem sp_some_part (l:List UInt8)(s k:Nat)(hk:k<l.length)(h:l[k]≠47):sp k (some s) (l.drop k)=sp (k+1) (some s) (l.drop (k+1)):=by
 rw[List.drop_eq_getElem_cons hk,sp,if_neg h]
theorem sp_some_end (l:List UInt8)(s:Nat):sp l.length (some s) (l.drop l.length) = [(s,l.length)]:=by simp[sp]
def partOf (l:List UInt8)(k:Nat):Option Nat→List UInt8
 | none=> []
 | some s=>cutS l (s,k)
theorem cutS_snoc (l:List UInt8)(s k:Nat)(hs:s≤k)(hk:k<l.length):cutS l (s,k+1)=cutS l (s,k)++ [l[k]]:=by
 unfold cutS;simp only;rw[List.take_succ_eq_append_getElem hk,List.drop_append_of_le_length (by simp;omega)]
theorem cutS_self (l:List UInt8)(k:Nat):cutS l (k,k) = []:=by unfold cutS;simp
theorem cutS_ne (l:List UInt8)(s k:Nat)(hs:s<k)(hk:k≤l.length):cutS l (s,k)≠ []:=by
 unfold cutS;intro h;have:=congrArg List.length h;simp at this;omega
theorem partOf_goon {l:List UInt8}{k:Nat}{st:Option Nat}(h2 : ∀s,st=some s→s<k)(hk:k<l.length):partOf l k st++ [l[k]]=partOf l (k+1) (some (st.getD k)):=by
 cases st with
 | none=>simp only[partOf,Option.getD_none];rw[cutS_snoc l k k (Nat.le_refl _) hk,cutS_self]
 | some s=>simp only[partOf,Option.getD_some];rw[cutS_snoc l s k (Nat.le_of_lt (h2 s rfl)) hk]
theorem pre_eq (l:List UInt8):Lib.hasPrefix l [47]=match l with | []=>false | c::_=>c == 47:=by
 cases l with
 | nil=>rfl
 | cons c r =>
    unfold Lib.hasPrefix;simp only[List.isPrefixOf,Bool.and_true];rw[Bool.eq_iff_iff,beq_iff_eq,beq_iff_eq];exact eq_comm
theorem suf_eq (l:List UInt8)(h:l≠ []):Lib.hasSuffix l [47]=(l.getLast h == 47):=by
 unfold Lib.hasSuffix;rw[Bool.eq_iff_iff,List.isSuffixOf_iff_suffix,beq_iff_eq];constructor
 · rintro⟨t,ht⟩;subst ht;simp
 · intro e;exact⟨l.dropLast,by rw[←e];exact List.dropLast_concat_getLast h⟩
end Go.Proofs.YtmiekcdkamgknaaGreatDoor
namespace Go.Proofs.YtmiekcdkamgknaaGreatDoor
open Go.RowKit Go.Shelf
end Go.Proofs.YtmiekcdkamgknaaGreatDoor
namespace Go.Proofs.YtmiekcdkamgknaaGreatDoor
open Go.RowKit Go.Shelf
end Go.Proofs.YtmiekcdkamgknaaGreatDoor
namespace Go.Proofs.YtmiekcdkamgknaaGreatDoor
open Go.RowKit Go.Shelf
theorem cutS_len (l:List UInt8)(p:Nat × Nat)(h:p∈spans l):(cutS l p).length=p.2-p.1:=by
 have:=spans_bd l p h;unfold cutS;simp;omega
end Go.Proofs.YtmiekcdkamgknaaGreatDoor
namespace Go.Proofs.YtmiekcdkamgknaaGreatDoor
def PartAt (l:List UInt8)(x y:Nat):Prop:=x<y∧y≤l.length∧(x=0∨l[x-1]? = some 47)∧∀j,x≤j→j<y→l[j]?≠ some 47
def AllSlash (l:List UInt8)(y:Nat):Prop:=∀j,y≤j→j<l.length→l[j]? = some 47
theorem sp_last (l:List UInt8) : ∀(n i:Nat) (st:Option Nat),l.length-i=n→i≤l.length→(st=none→i=0∨l[i-1]? = some 47) →
 (∀s,st=some s→s<i∧(s=0∨l[s-1]? = some 47)∧∀j,s≤j→j<i→l[j]?≠ some 47) →
 (sp i st (l.drop i) = []→AllSlash l i)∧(∀p,(sp i st (l.drop i)).getLast? = some p→PartAt l p.1 p.2∧AllSlash l p.2):=by
  intro n
  induction n with
  | zero =>
     intro i st hn hi h1 h2;obtain rfl:i=l.length:=by omega
     cases st with
     | none=>rw[sp_end];exact⟨fun _ j a b=>(by omega),fun p h=>by cases h⟩
     | some s =>
        rw[sp_some_end];obtain⟨a,b,c⟩:=h2 s rfl;refine⟨fun h=>(by cases h),fun p h=> ?_⟩;simp at h;subst h;exact⟨⟨a,Nat.le_refl _,b,c⟩,fun j a b=>(by simp at a;omega)⟩
  | succ n ih =>
     intro i st hn hi h1 h2;(have hlt:i<l.length:=by omega);have hget:l[i]? = some l[i]:=List.getElem?_eq_getElem hlt;by_cases hc:l[i]=47
     · rw[hc]at hget
       have hi1:=ih (i+1) none (by omega) hlt (fun _=> .inr (by simpa using hget)) (fun s h=>by cases h)
       have hall:AllSlash l (i+1)→AllSlash l i:=fun h j a b=>by
        rcases Nat.lt_or_ge j (i+1)with h' | h'
        · have e:j=i:=by omega
          rw[e];exact hget
        · exact h j h' b
       cases st with
       | none =>
          rw[sp_slash l i hlt hc];exact⟨fun h=>hall (hi1.1 h),hi1.2⟩
       | some s =>
          rw[sp_some_slash l s i hlt hc];obtain⟨a,b,c⟩:=h2 s rfl;refine⟨fun h=>(by cases h),fun p h=> ?_⟩
          cases hr:sp (i+1) none (l.drop (i+1))with
          | nil =>
             rw[hr]at h;simp at h;subst h;exact⟨⟨a,by omega,b,c⟩,hall (hi1.1 hr)⟩
          | cons q r =>
             rw[hr,List.getLast?_cons_cons]at h;exact hi1.2 p (by rw[hr];exact h)
     · have hne:l[i]?≠ some 47:=by rw[hget];intro e;exact hc (Option.some.inj e)
       cases st with
       | none =>
          rw[sp_none_part l i hlt hc];have hh:=h1 rfl
          have hi1:=ih (i+1) (some i) (by omega) hlt (fun h=>by cases h) (fun s h=>by
           cases h
           refine⟨Nat.lt_succ_self _,hh,fun j a b=> ?_⟩;have e:j=i:=by omega
           rw[e];exact hne)
          refine⟨fun h=> ?_,hi1.2⟩;rw[sp_some]at h;cases h
       | some s =>
          rw[sp_some_part l s i hlt hc];obtain⟨a,b,c⟩:=h2 s rfl
          have hi1:=ih (i+1) (some s) (by omega) hlt (fun h=>by cases h) (fun s' h=>by
           cases h
           refine⟨by omega,b,fun j u v=> ?_⟩;rcases Nat.lt_or_ge j i with h' | h'
           · exact c j u h'
           · have e:j=i:=by omega
             rw[e];exact hne)
          refine⟨fun h=> ?_,hi1.2⟩;rw[sp_some]at h;cases h
theorem spans_none {l:List UInt8}(h:spans l = []):AllSlash l 0 :=
 (sp_last l _ 0 none rfl (Nat.zero_le _) (fun _=> .inl rfl) (fun s h=>by cases h)).1 (by simpa[spans]using h)
end Go.Proofs.YtmiekcdkamgknaaGreatDoor
namespace Go.Proofs.YtmiekcdkamgknaaGreatDoor
open Go.RowKit Go.Shelf
end Go.Proofs.YtmiekcdkamgknaaGreatDoor
namespace Go.Proofs.YtmiekcdkamgknaaGreatDoor
open Go.RowKit Go.Shelf
end Go.Proofs.YtmiekcdkamgknaaGreatDoor
namespace Go.Proofs.YtmiekcdkamgknaaGreatDoor
open Go.RowKit Go.Shelf
end Go.Proofs.YtmiekcdkamgknaaGreatDoor
namespace Go.Proofs.YtmiekcdkamgknaaGreatDoor
def partsG (cur:List UInt8):List UInt8→List (List UInt8)
 | []=>if cur = []then[]else[cur]
 | c::r=>if c=47 then(if cur = []then partsG [] r else cur::partsG [] r)else partsG (cur++ [c]) r
theorem partsG_eq (l:List UInt8) : ∀(n i:Nat) (st:Option Nat),l.length-i=n→i≤l.length→(∀s,st=some s→s<i)→(sp i st (l.drop i)).map (cutS l)=partsG (partOf l i st) (l.drop i):=by
 intro n
 induction n with
 | zero =>
    intro i st hn hi hst;(obtain rfl:i=l.length:=by omega);have hd:l.drop l.length = []:=by simp
    cases st with
    | none=>rw[sp_end,hd];rfl
    | some s =>
       have:=cutS_ne l s l.length (hst s rfl) (Nat.le_refl _);rw[sp_some_end,hd];simp[partsG,partOf,this]
 | succ n ih =>
    intro i st hn hi hst;(have hlt:i<l.length:=by omega);have hd:=List.drop_eq_getElem_cons hlt;by_cases hc:l[i]=47
    · have h1:=ih (i+1) none (by omega) hlt (by simp)
      cases st with
      | none =>
         (rw[sp_slash l i hlt hc,h1];conv=>rhs;rw[hd,partsG]);simp[hc,partOf]
      | some s =>
         have:=cutS_ne l s i (hst s rfl) (by omega);(rw[sp_some_slash l s i hlt hc,List.map_cons,h1];conv=>rhs;rw[hd,partsG]);simp[hc,partOf,this]
    · have h1:=ih (i+1) (some (st.getD i)) (by omega) hlt (by
       intro s hs
       cases st with
       | none=>simp at hs;omega
       | some s'=>have:=hst s' rfl;simp at hs;omega)
      have h2:sp i st (l.drop i)=sp (i+1) (some (st.getD i)) (l.drop (i+1)):=by
       cases st with
       | none=>exact sp_none_part l i hlt hc
       | some s=>exact sp_some_part l s i hlt hc
      rw[h2,h1]
      conv=>rhs;rw[hd,partsG,if_neg hc]
      rw[partOf_goon hst hlt]
theorem parts_G (l:List UInt8):parts l=partsG [] l:=by
 have:=partsG_eq l _ 0 none rfl (Nat.zero_le _) (by simp);simpa[parts,spans,partOf]using this
theorem G_app (a b:List UInt8) : ∀cur,partsG cur (a++47::b)=partsG cur a++partsG [] b:=by
 induction a with
 | nil=>intro cur;simp only[List.nil_append,partsG,if_true];split<;>simp
 | cons c r ih =>
    intro cur;simp only[List.cons_append,partsG];split
    · split
      · exact ih []
      · rw[ih []];rfl
    · exact ih _
theorem G_part (b:List UInt8) : ∀cur,(47:UInt8)∉b→partsG cur b=if cur++b = []then[]else[cur++b]:=by
 induction b with
 | nil=>intro cur _;simp[partsG]
 | cons c r ih =>
    intro cur h;simp only[List.mem_cons,not_or]at h;rw[partsG,if_neg (fun e=>h.1 e.symm),ih _ h.2];simp
theorem parts_app (a b:List UInt8):parts (a++47::b)=parts a++parts b:=by rw[parts_G,parts_G,parts_G,G_app]
theorem parts_one {b:List UInt8}(h:(47:UInt8)∉b)(hb:b≠ []):parts b = [b]:=by rw[parts_G,G_part b [] h];simp[hb]
theorem parts_nil:parts [] = []:=by decide
theorem hasPrefix_app {a b:List UInt8}(h:a≠ []):Lib.hasPrefix (a++b) [47]=Lib.hasPrefix a [47]:=by
 cases a with
 | nil=>exact absurd rfl h
 | cons c r=>rw[List.cons_append,pre_eq,pre_eq]
theorem hasPrefix_notin {b:List UInt8}(h:(47:UInt8)∉b):Lib.hasPrefix b [47]=false:=by
 cases b with
 | nil=>rfl
 | cons c r =>
    rw[pre_eq];simp only[List.mem_cons,not_or]at h;exact beq_eq_false_iff_ne.2 (fun e=>h.1 e.symm)
end Go.Proofs.YtmiekcdkamgknaaGreatDoor
namespace Go.Proofs.YtmiekcdkamgknaaGreatDoor
open Go.RowKit Go.Shelf
end Go.Proofs.YtmiekcdkamgknaaGreatDoor
