import Derived.Lib.TrimByte
import Derived.Lib.Bytealg
import Derived.Test.YtbjkkijickbppaaGreatDoorR11
import Derived.Test.YtbjkkijickbppaaGreatDoorShelf
import Derived.Lib.Strings
import Derived.Laws.OwnMore
import Derived.Laws.BitsLemmas
import Derived.Test.YtbjkkijickbppaaGreatDoorProg
import Derived.Test.YtbjkkijickbppaaGreatDoorR12
namespace Go.Proofs.YtbjkkijickbppaaGreatDoor
def sp:Nat→Option Nat→List UInt8→List (Nat × Nat)
 | _,none,[]=> []
 | i,some s,[]=> [(s,i)]
 | i,none,c::r=>if c=47 then sp (i+1) none r else sp (i+1) (some i) r
 | i,some s,c::r=>if c=47 then(s,i)::sp (i+1) none r else sp (i+1) (some s) r
def spans (l:List UInt8):List (Nat × Nat):=sp 0 none l
def cutS (l:List UInt8)(p:Nat × Nat):List UInt8:=(l.take p.2).drop p.1
def parts (l:List UInt8):List (List UInt8):=(spans l).map (cutS l)
theorem sp_end (l:List UInt8):sp l.length none (l.drop l.length) = []:=by simp[sp]
theorem sp_slash (l:List UInt8)(k:Nat)(hk:k<l.length)(h:l[k]=47):sp k none (l.drop k)=sp (k+1) none (l.drop (k+1)):=by
 rw[List.drop_eq_getElem_cons hk,sp,if_pos h]
theorem sp_bd : ∀(r:List UInt8) (i:Nat) (st:Option Nat),(∀s,st=some s→s<i)→∀p∈sp i st r,st.getD i≤p.1∧p.1<p.2∧p.2≤i+r.length:=by
 intro r
 induction r with
 | nil =>
    intro i st hst p hp
    cases st with
    | none=>simp[sp]at hp
    | some s=>simp[sp]at hp;subst hp;have:=hst s rfl;simp;omega
 | cons c r ih =>
    intro i st hst p hp
    cases st with
    | none =>
       rw[sp]at hp;split at hp
       · have:=ih (i+1) none (by simp) p hp;simp at this ⊢;omega
       · have:=ih (i+1) (some i) (by simp) p hp;simp at this ⊢;omega
    | some s =>
       have hs:=hst s rfl;rw[sp]at hp;split at hp
       · simp only[List.mem_cons]at hp
         rcases hp with rfl | hp
         · simp;omega
         · have:=ih (i+1) none (by simp) p hp;simp at this ⊢;omega
       · have:=ih (i+1) (some s) (by simp;omega) p hp;simp at this ⊢;omega
theorem spans_bd (l:List UInt8)(p:Nat × Nat)(h:p∈spans l):p.1<p.2∧p.2≤l.length:=by
 have:=sp_bd l 0 none (by simp) p h;simp at this;omega
end Go.Proofs.YtbjkkijickbppaaGreatDoor
namespace Go.Proofs.YtbjkkijickbppaaGreatDoor
open Go.RowKit Go.Shelf
attribute [local go_sem] Oper.semAt_some wide_fn wide_depth
end Go.Proofs.YtbjkkijickbppaaGreatDoor
namespace Go.Proofs.YtbjkkijickbppaaGreatDoor
open Go.RowKit Go.Shelf
attribute [local go_sem] Oper.semAt_some wide_fn wide_depth
end Go.Proofs.YtbjkkijickbppaaGreatDoor
namespace Go.Proofs.YtbjkkijickbppaaGreatDoor
open Go.RowKit Go.Shelf
attribute [local go_sem] Oper.semAt_some wide_fn wide_depth
end Go.Proofs.YtbjkkijickbppaaGreatDoor
namespace Go.Proofs.YtbjkkijickbppaaGreatDoor
open Go.RowKit Go.Shelf
attribute [local go_sem] Oper.semAt_some wide_fn wide_depth
def checkE (l:List UInt8):Int :=
 if l = []then 2 else if 100<l.length then 9 else if(0:UInt8)∈l then 1 else if(spans l).any (fun p=>decide (12<p.2-p.1))then 9 else 0
end Go.Proofs.YtbjkkijickbppaaGreatDoor
namespace Go.Proofs.YtbjkkijickbppaaGreatDoor
open Go.RowKit Go.Shelf
attribute [local go_sem] Oper.semAt_some wide_fn wide_depth
end Go.Proofs.YtbjkkijickbppaaGreatDoor
namespace Go.Proofs.YtbjkkijickbppaaGreatDoor
open Go.RowKit Go.Shelf
end Go.Proofs.YtbjkkijickbppaaGreatDoor
namespace Go.Proofs.YtbjkkijickbppaaGreatDoor
theorem sp_none_part (l:List UInt8)(k:Nat)(hk:k<l.length)(h:l[k]≠47):sp k none (l.drop k)=sp (k+1) (some k) (l.drop (k+1)):=by
 rw[List.drop_eq_getElem_cons hk,sp,if_neg h]
theorem sp_some_slash (l:List UInt8)(s k:Nat)(hk:k<l.length)(h:l[k]=47):sp k (some s) (l.drop k)=(s,k)::sp (k+1) none (l.drop (k+1)):=by
 rw[List.drop_eq_getElem_cons hk,sp,if_pos h]
theorem sp_some_part (l:List UInt8)(s k:Nat)(hk:k<l.length)(h:l[k]≠47):sp k (some s) (l.drop k)=sp (k+1) (some s) (l.drop (k+1)):=by
 rw[List.drop_eq_getElem_cons hk,sp,if_neg h]
theorem sp_some_end (l:List UInt8)(s:Nat):sp l.length (some s) (l.drop l.length) = [(s,l.length)]:=by simp[sp]
def partOf (l:List UInt8)(k:Nat):Option Nat→List UInt8
 | none=> []
 | some s=>cutS l (s,k)
theorem cutS_snoc (l:List UInt8)(s k:Nat)(hs:s≤k)(hk:k<l.length):cutS l (s,k+1)=cutS l (s,k)++ [l[k]]:=by
 unfold cutS;simp only;rw[List.take_succ_eq_append_getElem hk,List.drop_append_of_le_length (by simp;omega)]
theorem cutS_self (l:List UInt8)(k:Nat):cutS l (k,k) = []:=by unfold cutS;simp
theorem cutS_ne (l:List UInt8)(s k:Nat)(hs:s<k)(hk:k≤l.length):cutS l (s,k)≠ []:=by
 unfold cutS;intro h;have:=congrArg List.length h;simp at this;omega
theorem partOf_goon {l:List UInt8}{k:Nat}{st:Option Nat}(h2 : ∀s,st=some s→s<k)(hk:k<l.length):partOf l k st++ [l[k]]=partOf l (k+1) (some (st.getD k)):=by
 cases st with
 | none=>simp only[partOf,Option.getD_none];rw[cutS_snoc l k k (Nat.le_refl _) hk,cutS_self]
 | some s=>simp only[partOf,Option.getD_some];rw[cutS_snoc l s k (Nat.le_of_lt (h2 s rfl)) hk]
end Go.Proofs.YtbjkkijickbppaaGreatDoor
namespace Go.Proofs.YtbjkkijickbppaaGreatDoor
open Go.RowKit Go.Shelf
end Go.Proofs.YtbjkkijickbppaaGreatDoor
namespace Go.Proofs.YtbjkkijickbppaaGreatDoor
open Go.RowKit Go.Shelf
end Go.Proofs.YtbjkkijickbppaaGreatDoor
namespace Go.Proofs.YtbjkkijickbppaaGreatDoor
open Go.RowKit Go.Shelf
theorem cutS_len (l:List UInt8)(p:Nat × Nat)(h:p∈spans l):(cutS l p).length=p.2-p.1:=by
 have:=spans_bd l p h;unfold cutS;simp;omega
end Go.Proofs.YtbjkkijickbppaaGreatDoor
namespace Go.Proofs.YtbjkkijickbppaaGreatDoor
end Go.Proofs.YtbjkkijickbppaaGreatDoor
namespace Go.Proofs.YtbjkkijickbppaaGreatDoor
open Go.RowKit Go.Shelf
end Go.Proofs.YtbjkkijickbppaaGreatDoor
namespace Go.Proofs.YtbjkkijickbppaaGreatDoor
open Go.RowKit Go.Shelf
end Go.Proofs.YtbjkkijickbppaaGreatDoor
namespace Go.Proofs.YtbjkkijickbppaaGreatDoor
open Go.RowKit Go.Shelf
end Go.Proofs.YtbjkkijickbppaaGreatDoor
namespace Go.Proofs.YtbjkkijickbppaaGreatDoor
def partsG (cur:List UInt8):List UInt8→List (List UInt8)
 | []=>if cur = []then[]else[cur]
 | c::r=>if c=47 then(if cur = []then partsG [] r else cur::partsG [] r)else partsG (cur++ [c]) r
theorem partsG_eq (l:List UInt8) : ∀(n i:Nat) (st:Option Nat),l.length-i=n→i≤l.length→(∀s,st=some s→s<i)→(sp i st (l.drop i)).map (cutS l)=partsG (partOf l i st) (l.drop i):=by
 intro n
 induction n with
 | zero =>
    intro i st hn hi hst;(obtain rfl:i=l.length:=by omega);have hd:l.drop l.length = []:=by simp
    cases st with
    | none=>rw[sp_end,hd];rfl
    | some s =>
       have:=cutS_ne l s l.length (hst s rfl) (Nat.le_refl _);rw[sp_some_end,hd];simp[partsG,partOf,this]
 | succ n ih =>
    intro i st hn hi hst;(have hlt:i<l.length:=by omega);have hd:=List.drop_eq_getElem_cons hlt;by_cases hc:l[i]=47
    · have h1:=ih (i+1) none (by omega) hlt (by simp)
      cases st with
      | none =>
         (rw[sp_slash l i hlt hc,h1];conv=>rhs;rw[hd,partsG]);simp[hc,partOf]
      | some s =>
         have:=cutS_ne l s i (hst s rfl) (by omega);(rw[sp_some_slash l s i hlt hc,List.map_cons,h1];conv=>rhs;rw[hd,partsG]);simp[hc,partOf,this]
    · have h1:=ih (i+1) (some (st.getD i)) (by omega) hlt (by
       intro s hs
       cases st with
       | none=>simp at hs;omega
       | some s'=>have:=hst s' rfl;simp at hs;omega)
      have h2:sp i st (l.drop i)=sp (i+1) (some (st.getD i)) (l.drop (i+1)):=by
       cases st with
       | none=>exact sp_none_part l i hlt hc
       | some s=>exact sp_some_part l s i hlt hc
      rw[h2,h1]
      conv=>rhs;rw[hd,partsG,if_neg hc]
      rw[partOf_goon hst hlt]
theorem parts_G (l:List UInt8):parts l=partsG [] l:=by
 have:=partsG_eq l _ 0 none rfl (Nat.zero_le _) (by simp);simpa[parts,spans,partOf]using this
theorem G_app (a b:List UInt8) : ∀cur,partsG cur (a++47::b)=partsG cur a++partsG [] b:=by
 induction a with
 | nil=>intro cur;simp only[List.nil_append,partsG,if_true];split<;>simp
 | cons c r ih =>
    intro cur;simp only[List.cons_append,partsG];split
    · split
      · exact ih []
      · rw[ih []];rfl
    · exact ih _
theorem G_part (b:List UInt8) : ∀cur,(47:UInt8)∉b→partsG cur b=if cur++b = []then[]else[cur++b]:=by
 induction b with
 | nil=>intro cur _;simp[partsG]
 | cons c r ih =>
    intro cur h;simp only[List.mem_cons,not_or]at h;rw[partsG,if_neg (fun e=>h.1 e.symm),ih _ h.2];simp
theorem parts_app (a b:List UInt8):parts (a++47::b)=parts a++parts b:=by rw[parts_G,parts_G,parts_G,G_app]
theorem parts_one {b:List UInt8}(h:(47:UInt8)∉b)(hb:b≠ []):parts b = [b]:=by rw[parts_G,G_part b [] h];simp[hb]
theorem parts_nil:parts [] = []:=by decide
end Go.Proofs.YtbjkkijickbppaaGreatDoor
namespace Go.Proofs.YtbjkkijickbppaaGreatDoor
open Go.RowKit Go.Shelf
end Go.Proofs.YtbjkkijickbppaaGreatDoor
namespace Go.Proofs.YtbjkkijickbppaaGreatDoor
open Go
abbrev V (n:Int):BitVec 64:=BitVec.ofInt 64 n
def subB (want rights:Int):Bool:=(V want &&& 7#64 &&& ~~~ (V rights &&& 7#64)) == 0#64
def mayB (m owner who want:Int):Bool:=if who=0 then true else subB want (if owner=who then m / 8 else m)
def maskI (m u:Int):Int:=bits .andNot .i64 (m % 64) u
end Go.Proofs.YtbjkkijickbppaaGreatDoor
namespace Go.Proofs.YtbjkkijickbppaaGreatDoor
open Go.RowKit
end Go.Proofs.YtbjkkijickbppaaGreatDoor
namespace Go.Proofs.YtbjkkijickbppaaGreatDoor
structure SpotL where
 dir:Int
 name:Str
 ino:Int
 slash:Bool
def zeroS:SpotL:=⟨0,[],0,false⟩
theorem spot_ext {a b:SpotL}(h0:a.dir=b.dir)(h1:a.name=b.name)(h2:a.ino=b.ino)(h3:a.slash=b.slash):a=b:=by
 cases a;cases b;simp_all
instance:DecidableEq SpotL:=fun a b =>
 decidable_of_iff (a.dir=b.dir∧a.name=b.name∧a.ino=b.ino∧a.slash=b.slash) ⟨fun⟨h0,h1,h2,h3⟩=>spot_ext h0 h1 h2 h3,fun h=>by subst h;simp⟩
abbrev ResL:=SpotL × Int
def nodeL (l:List NodeL)(i:Int):NodeL:=if gotB l i=true then atI l i else zeroN
def dirE (l:List NodeL)(i:Int):Int:=if gotB l i=true then if(nodeL l i).kind=2 then 0 else 4 else 2
def lookL (l:List NodeL)(i:Int)(p:Str):Int:=if p = [46]then i else if p = [46,46]then(nodeL l i).up else(findL (nodeL l i).names p).getD (-1)
def firstAt (i:Int)(p:Str):Int:=if Lib.hasPrefix p [47]=true then 0 else i
def mayAt (l:List NodeL)(who i:Int):Bool:=mayB (nodeL l i).mode (nodeL l i).owner who 1
def goW (l:List NodeL)(who:Int)(follow slash:Bool)(i:Int)(ps:List Str)(hops:Nat):ResL :=
 match ps with
 | []=>(⟨0,[],0,slash⟩,0)
 | p::rest =>
    if dirE l i≠0 then(zeroS,dirE l i)
    else if mayAt l who i=false then(zeroS,7)
    else if lookL l i p<0 then if rest = []then(⟨i,p, -1,slash⟩,0)else(zeroS,2)
    else if(nodeL l (lookL l i p)).kind=3∧(rest≠ []∨follow=true∨slash=true)then
     if 8≤hops then(zeroS,8)
     else if checkE (nodeL l (lookL l i p)).data≠0 then(zeroS,checkE (nodeL l (lookL l i p)).data)
     else goW l who follow slash (firstAt i (nodeL l (lookL l i p)).data) (parts (nodeL l (lookL l i p)).data++rest) (hops+1)
    else if rest = []then if slash=true∧(nodeL l (lookL l i p)).kind≠2 then(zeroS,4)else(⟨i,p,lookL l i p,slash⟩,0)
    else goW l who follow slash (lookL l i p) rest hops
termination_by (9-hops,ps.length)
def walkL (l:List NodeL)(who fr:Int)(path:Str)(follow:Bool):ResL :=
 if checkE path≠0 then(zeroS,checkE path)
 else if parts path = []then if dirE l (firstAt fr path)≠0 then(zeroS,dirE l (firstAt fr path))else(⟨firstAt fr path,[],firstAt fr path,true⟩,0)
 else goW l who follow (Lib.hasSuffix path [47]) (firstAt fr path) (parts path) 0
def wnodeL (r:ResL):Int × Int:=if r.2≠0 then(0,r.2)else if r.1.ino<0 then(0,2)else(r.1.ino,0)
section
variable {l:List NodeL} {who:Int} {follow slash:Bool} {i:Int} {p:Str} {rest:List Str} {hops:Nat}
theorem go_nil:goW l who follow slash i [] hops=(⟨0,[],0,slash⟩,0):=by rw[goW]
theorem go_dir (h:dirE l i≠0):goW l who follow slash i (p::rest) hops=(zeroS,dirE l i):=by rw[goW,if_pos h]
theorem go_may (h:dirE l i=0)(h2:mayAt l who i=false):goW l who follow slash i (p::rest) hops=(zeroS,7):=by rw[goW,if_neg (by simp[h]),if_pos h2]
theorem go_none1 (h:dirE l i=0)(h2:mayAt l who i=true)(h3:lookL l i p<0)(h4:rest = []):goW l who follow slash i (p::rest) hops=(⟨i,p, -1,slash⟩,0):=by
 rw[goW,if_neg (by simp[h]),if_neg (by simp[h2]),if_pos h3,if_pos h4]
theorem go_none2 (h:dirE l i=0)(h2:mayAt l who i=true)(h3:lookL l i p<0)(h4:rest≠ []):goW l who follow slash i (p::rest) hops=(zeroS,2):=by
 rw[goW,if_neg (by simp[h]),if_neg (by simp[h2]),if_pos h3,if_neg h4]
theorem go_loop (h:dirE l i=0)(h2:mayAt l who i=true)(h3: ¬lookL l i p<0)(h4:(nodeL l (lookL l i p)).kind=3)(h5:rest≠ []∨follow=true∨slash=true)(h6:8≤hops) :
 goW l who follow slash i (p::rest) hops=(zeroS,8):=by
 rw[goW,if_neg (by simp[h]),if_neg (by simp[h2]),if_neg h3,if_pos ⟨h4,h5⟩,if_pos h6]
theorem go_bad (h:dirE l i=0)(h2:mayAt l who i=true)(h3: ¬lookL l i p<0)(h4:(nodeL l (lookL l i p)).kind=3)(h5:rest≠ []∨follow=true∨slash=true)(h6: ¬8≤hops)(h7:checkE (nodeL l (lookL l i p)).data≠0) :
 goW l who follow slash i (p::rest) hops=(zeroS,checkE (nodeL l (lookL l i p)).data):=by
 rw[goW,if_neg (by simp[h]),if_neg (by simp[h2]),if_neg h3,if_pos ⟨h4,h5⟩,if_neg h6,if_pos h7]
theorem go_link (h:dirE l i=0)(h2:mayAt l who i=true)(h3: ¬lookL l i p<0)(h4:(nodeL l (lookL l i p)).kind=3)(h5:rest≠ []∨follow=true∨slash=true)(h6: ¬8≤hops)(h7:checkE (nodeL l (lookL l i p)).data=0) :
 goW l who follow slash i (p::rest) hops=goW l who follow slash (firstAt i (nodeL l (lookL l i p)).data) (parts (nodeL l (lookL l i p)).data++rest) (hops+1):=by
 rw[goW,if_neg (by simp[h]),if_neg (by simp[h2]),if_neg h3,if_pos ⟨h4,h5⟩,if_neg h6,if_neg (by simp[h7])]
theorem go_file (h:dirE l i=0)(h2:mayAt l who i=true)(h3: ¬lookL l i p<0)(h4: ¬((nodeL l (lookL l i p)).kind=3∧(rest≠ []∨follow=true∨slash=true)))(h5:rest = [])(h6:slash=true∧(nodeL l (lookL l i p)).kind≠2) :
 goW l who follow slash i (p::rest) hops=(zeroS,4):=by
 rw[goW,if_neg (by simp[h]),if_neg (by simp[h2]),if_neg h3,if_neg h4,if_pos h5,if_pos h6]
theorem go_spot (h:dirE l i=0)(h2:mayAt l who i=true)(h3: ¬lookL l i p<0)(h4: ¬((nodeL l (lookL l i p)).kind=3∧(rest≠ []∨follow=true∨slash=true)))(h5:rest = [])(h6: ¬(slash=true∧(nodeL l (lookL l i p)).kind≠2)) :
 goW l who follow slash i (p::rest) hops=(⟨i,p,lookL l i p,slash⟩,0):=by
 rw[goW,if_neg (by simp[h]),if_neg (by simp[h2]),if_neg h3,if_neg h4,if_pos h5,if_neg h6]
theorem go_on (h:dirE l i=0)(h2:mayAt l who i=true)(h3: ¬lookL l i p<0)(h4:(nodeL l (lookL l i p)).kind≠3)(h5:rest≠ []) :
 goW l who follow slash i (p::rest) hops=goW l who follow slash (lookL l i p) rest hops:=by
 rw[goW,if_neg (by simp[h]),if_neg (by simp[h2]),if_neg h3,if_neg (fun h=>h4 h.1),if_neg h5]
end
def RightP (l:List NodeL):Prop:=∃most room,rightR l most room=true
theorem right_ok {l:List NodeL}(h:RightP l){i:Int}(hi:gotB l i=true) : ∃k:Nat,i=k∧∃hk:k<l.length,nodeL l i=l[k]∧l[k].kind≠0∧okR l k l[k]=true:=by
 obtain⟨most,room,h⟩:=h;have hg:=hi;unfold gotB at hi;rw[Bool.and_eq_true]at hi;obtain⟨k,rfl,hk⟩:=in_nat hi.1;have hat:=at_nat l k hk;refine⟨k,rfl,hk,?_,?_,?_⟩
 · unfold nodeL;rw[if_pos hg,hat]
 · have:=hi.2;rw[hat]at this;simpa using this
 · unfold rightR at h
   rw[Bool.and_eq_true]at h;have:=(range_all _ _).1 h.2 k hk;rw[hat]at this;exact this
theorem right_len {l:List NodeL}(h:RightP l):0<l.length∧(atI l 0).kind=2:=by
 obtain⟨most,room,h⟩:=h;unfold rightR at h;simp only[Bool.and_eq_true,decide_eq_true_iff,Bool.not_eq_true',decide_eq_false_iff_not]at h;exact⟨by omega,h.1.2⟩
theorem right_root {l:List NodeL}(h:RightP l):dirE l 0=0∧gotB l 0=true:=by
 obtain⟨h1,h2⟩:=right_len h
 have hg:gotB l 0=true:=by
  have h3:inL l 0=true:=nat_in (l:=l) (k:=0) h1;unfold gotB;rw[h3,h2];rfl
 refine⟨?_,hg⟩;unfold dirE nodeL;rw[if_pos hg,if_pos hg,if_pos h2]
theorem dir_got {l:List NodeL}{i:Int}(h:dirE l i=0):gotB l i=true∧(nodeL l i).kind=2:=by
 unfold dirE at h;split at h
 · rename_i hg
   split at h
   · exact⟨hg,‹_›⟩
   · cases h
 · cases h
theorem got_dir {l:List NodeL}{i:Int}(h:gotB l i=true)(h2:(nodeL l i).kind=2):dirE l i=0:=by
 unfold dirE;rw[if_pos h,if_pos h2]
theorem got_le {l:List NodeL}{i:Int}(h:gotB l i=true):0≤i∧i<l.length:=by
 unfold gotB inL at h;simp only[Bool.and_eq_true,decide_eq_true_iff]at h;exact h.1
theorem okR_parts {l:List NodeL}{k:Nat}{n:NodeL}(h0:n.kind≠0)(h:okR l k n=true):1≤n.kind∧n.kind≤3∧SortedP n.names∧namableB l n.names=true∧(n.kind≠2→n.names = [])∧lastR l k n (nmL l k (0, -1))=true:=by
 unfold okR at h;rw[if_neg h0]at h;simp only[Bool.and_eq_true,decide_eq_true_iff,Bool.or_eq_true]at h;obtain⟨⟨⟨⟨⟨h1,h2⟩,h3⟩,h4⟩,h5⟩,h6⟩:=h;unfold plainB at h1;simp only[Bool.and_eq_true,decide_eq_true_iff]at h1;refine⟨h1.1.1.1.1,h1.1.1.1.2,h4,h5,fun hk=> ?_,h6⟩;rcases h2 with h2 | h2
 · exact absurd h2 hk
 · exact List.eq_nil_of_length_eq_zero h2
theorem rootR_up {l:List NodeL}{f:Nat}{j:Int}(h:rootR l (f+1) j=true):j=0∨(gotB l j=true∧(atI l j).kind=2∧rootR l f (atI l j).up=true):=by
 unfold rootR at h;split at h
 · exact .inl ‹_›
 · split at h
   · rename_i h1
     simp only[Bool.and_eq_true,decide_eq_true_iff]at h1;exact .inr ⟨h1.1,h1.2,h⟩
   · cases h
theorem right_up {l:List NodeL}(h:RightP l){i:Int}(hi:dirE l i=0):dirE l (nodeL l i).up=0:=by
 obtain⟨hg,hk⟩:=dir_got hi;obtain⟨k,rfl,hlt,hn,h0,hok⟩:=right_ok h hg;obtain⟨_,_,_,_,_,hl⟩:=okR_parts h0 hok;rw[hn]at hk ⊢;have h00:=(right_root h).1;unfold lastR at hl;split at hl
 · simp only[Bool.and_eq_true,decide_eq_true_iff]at hl
   rw[hl.1.2];exact h00
 · split at hl
   · cases hl
   · rw[if_neg (by simpa using hk)]at hl
     split at hl
     · simp only[Bool.and_eq_true,decide_eq_true_iff]at hl
       rw[hl.2];exact h00
     · simp only[Bool.and_eq_true,decide_eq_true_iff]at hl
       rcases rootR_up hl.2 with h1 | ⟨_,_,h2⟩
       · rename_i hne _ _
         exact absurd h1 hne
       · rw[at_nat l k hlt]at h2
         obtain⟨f,hf⟩ : ∃f,l.length=f+1:=⟨l.length-1,by omega⟩;rw[hf]at h2;rcases rootR_up h2 with h3 | ⟨h3,h4,_⟩
         · rw[h3];exact h00
         · exact got_dir h3 (by unfold nodeL;rw[if_pos h3];exact h4)
theorem findL_mem {l:List EntL}{n:Nm}{i:Int}(h:findL l n=some i):(n,i)∈l:=by
 unfold findL at h;obtain⟨e,he,rfl⟩:=Option.map_eq_some_iff.1 h;have h1:=List.mem_of_find?_eq_some he;have h2:=List.find?_some he;(have h3:e.1=n:=by simpa using h2);rw[←h3];exact h1
theorem right_look {l:List NodeL}(h:RightP l){i:Int}(hi:dirE l i=0)(p:Str):lookL l i p = -1∨gotB l (lookL l i p)=true:=by
 obtain⟨hg,hk⟩:=dir_got hi;unfold lookL;split
 · exact .inr hg
 · split
   · exact .inr (dir_got (right_up h hi)).1
   · cases hf:findL (nodeL l i).names p with
     | none=>exact .inl rfl
     | some j =>
        obtain⟨k,rfl,hlt,hn,h0,hok⟩:=right_ok h hg;obtain⟨_,_,_,h4,_,_⟩:=okR_parts h0 hok;rw[hn]at hf;unfold namableB at h4;have h5:=List.all_eq_true.1 h4 _ (findL_mem hf);unfold namB at h5;simp only[Bool.and_eq_true]at h5;exact .inr h5.1
theorem look_neg {l:List NodeL}(h:RightP l){i:Int}(hi:dirE l i=0)(p:Str):lookL l i p<0↔lookL l i p = -1:=by
 rcases right_look h hi p with h1 | h1
 · rw[h1];decide
 · have:=got_le h1;omega
theorem look_got {l:List NodeL}(h:RightP l){i:Int}(hi:dirE l i=0)(p:Str):gotB l (lookL l i p)=true↔ ¬lookL l i p<0:=by
 rcases right_look h hi p with h1 | h1
 · rw[h1]
   exact⟨fun h=>by have:=got_le h;omega,fun h=>by omega⟩
 · have:=got_le h1
   exact⟨fun _=>by omega,fun _=>h1⟩
end Go.Proofs.YtbjkkijickbppaaGreatDoor
namespace Go.Proofs.YtbjkkijickbppaaGreatDoor
theorem go_ind (l:List NodeL)(who:Int)(follow slash:Bool)(M:Int→List Str→Nat→ResL→Prop)
 (nil : ∀i hops,M i [] hops (⟨0,[],0,slash⟩,0))
 (dir : ∀i hops p rest,dirE l i≠0→M i (p::rest) hops (zeroS,dirE l i))
 (may : ∀i hops p rest,dirE l i=0→mayAt l who i=false→M i (p::rest) hops (zeroS,7))
 (none1 : ∀i hops p,dirE l i=0→mayAt l who i=true→lookL l i p<0→M i [p] hops (⟨i,p, -1,slash⟩,0))
 (none2 : ∀i hops p rest,dirE l i=0→mayAt l who i=true→lookL l i p<0→rest≠ []→M i (p::rest) hops (zeroS,2))
 (loop : ∀i hops p rest,dirE l i=0→mayAt l who i=true→¬lookL l i p<0→(nodeL l (lookL l i p)).kind=3→(rest≠ []∨follow=true∨slash=true)→8≤hops→M i (p::rest) hops (zeroS,8))
 (bad : ∀i hops p rest,dirE l i=0→mayAt l who i=true→¬lookL l i p<0→(nodeL l (lookL l i p)).kind=3→(rest≠ []∨follow=true∨slash=true)→¬8≤hops→checkE (nodeL l (lookL l i p)).data≠0→M i (p::rest) hops (zeroS,checkE (nodeL l (lookL l i p)).data))
 (link : ∀i hops p rest R,dirE l i=0→mayAt l who i=true→¬lookL l i p<0→(nodeL l (lookL l i p)).kind=3→(rest≠ []∨follow=true∨slash=true)→¬8≤hops→checkE (nodeL l (lookL l i p)).data=0 →
   M (firstAt i (nodeL l (lookL l i p)).data) (parts (nodeL l (lookL l i p)).data++rest) (hops+1) R→M i (p::rest) hops R)
 (file : ∀i hops p,dirE l i=0→mayAt l who i=true→¬lookL l i p<0→¬((nodeL l (lookL l i p)).kind=3∧(follow=true∨slash=true))→slash=true→(nodeL l (lookL l i p)).kind≠2→M i [p] hops (zeroS,4))
 (spot : ∀i hops p,dirE l i=0→mayAt l who i=true→¬lookL l i p<0→¬((nodeL l (lookL l i p)).kind=3∧(follow=true∨slash=true))→¬(slash=true∧(nodeL l (lookL l i p)).kind≠2)→M i [p] hops (⟨i,p,lookL l i p,slash⟩,0))
 (on : ∀i hops p rest R,dirE l i=0→mayAt l who i=true→¬lookL l i p<0→(nodeL l (lookL l i p)).kind≠3→rest≠ []→M (lookL l i p) rest hops R→M i (p::rest) hops R) :
 ∀i ps hops,M i ps hops (goW l who follow slash i ps hops):=by
 intro i ps hops
 induction i,ps,hops using goW.induct l who follow slash with
 | case1 i hops=>rw[go_nil];exact nil i hops
 | case2 i hops p rest h=>rw[go_dir h];exact dir _ _ _ _ h
 | case3 i hops p rest h h2 =>
    have h:=Decidable.not_not.1 h;rw[go_may h h2];exact may _ _ _ _ h h2
 | case4 i hops p h h2 h3 =>
    have h:=Decidable.not_not.1 h;have h2:=Bool.not_eq_false _▸h2;rw[go_none1 h h2 h3 rfl];exact none1 _ _ _ h h2 h3
 | case5 i hops p rest h h2 h3 h4 =>
    have h:=Decidable.not_not.1 h;have h2:=Bool.not_eq_false _▸h2;rw[go_none2 h h2 h3 h4];exact none2 _ _ _ _ h h2 h3 h4
 | case6 i hops p rest h h2 h3 h4 h5 =>
    have h:=Decidable.not_not.1 h;have h2:=Bool.not_eq_false _▸h2;rw[go_loop h h2 h3 h4.1 h4.2 h5];exact loop _ _ _ _ h h2 h3 h4.1 h4.2 h5
 | case7 i hops p rest h h2 h3 h4 h5 h6 =>
    have h:=Decidable.not_not.1 h;have h2:=Bool.not_eq_false _▸h2;rw[go_bad h h2 h3 h4.1 h4.2 h5 h6];exact bad _ _ _ _ h h2 h3 h4.1 h4.2 h5 h6
 | case8 i hops p rest h h2 h3 h4 h5 h6 ih =>
    have h:=Decidable.not_not.1 h;have h2:=Bool.not_eq_false _▸h2;have h6:=Decidable.not_not.1 h6;rw[go_link h h2 h3 h4.1 h4.2 h5 h6];exact link _ _ _ _ _ h h2 h3 h4.1 h4.2 h5 h6 ih
 | case9 i hops p h h2 h3 h4 h5 =>
    have h:=Decidable.not_not.1 h;have h2:=Bool.not_eq_false _▸h2;rw[go_file h h2 h3 h5 rfl h4];exact file _ _ _ h h2 h3 (fun h=>h5 ⟨h.1, .inr h.2⟩) h4.1 h4.2
 | case10 i hops p h h2 h3 h4 h5 =>
    have h:=Decidable.not_not.1 h;have h2:=Bool.not_eq_false _▸h2;rw[go_spot h h2 h3 h5 rfl h4];exact spot _ _ _ h h2 h3 (fun h=>h5 ⟨h.1, .inr h.2⟩) h4
 | case11 i hops p rest h h2 h3 h4 h5 ih =>
    have h:=Decidable.not_not.1 h;have h2:=Bool.not_eq_false _▸h2;(have hk:(nodeL l (lookL l i p)).kind≠3:=fun hk=>h4 ⟨hk, .inl h5⟩);rw[go_on h h2 h3 hk h5];exact on _ _ _ _ _ h h2 h3 hk h5 ih
theorem go_ino {l:List NodeL}(h:RightP l)(who:Int)(follow slash:Bool) : ∀i ps hops,(goW l who follow slash i ps hops).2=0→(goW l who follow slash i ps hops).1.ino = -1∨gotB l (goW l who follow slash i ps hops).1.ino=true:=by
 refine go_ind l who follow slash (fun _ _ _ R=>R.2=0→R.1.ino = -1∨gotB l R.1.ino=true) ?_ ?_ ?_ ?_ ?_ ?_ ?_ ?_ ?_ ?_ ?_
 · intro i hops _;exact .inr (right_root h).2
 · intro i hops p rest hd he;exact absurd he hd
 · intro i hops p rest _ _ he;cases he
 · intro i hops p _ _ _ _;exact .inl rfl
 · intro i hops p rest _ _ _ _ he;cases he
 · intro i hops p rest _ _ _ _ _ _ he;cases he
 · intro i hops p rest _ _ _ _ _ _ hc he;exact absurd he hc
 · intro i hops p rest R _ _ _ _ _ _ _ ih;exact ih
 · intro i hops p _ _ _ _ _ _ he;cases he
 · intro i hops p hd _ hn _ _ _;exact .inr ((look_got h hd p).2 hn)
 · intro i hops p rest R _ _ _ _ _ ih;exact ih
theorem walk_ino {l:List NodeL}(h:RightP l)(who fr:Int)(path:Str)(follow:Bool)(he:(walkL l who fr path follow).2=0):(walkL l who fr path follow).1.ino = -1∨gotB l (walkL l who fr path follow).1.ino=true:=by
 unfold walkL at he ⊢;split at he
 · rename_i hc;exact absurd he hc
 · rename_i hc
   rw[if_neg hc];split at he
   · rename_i hp
     rw[if_pos hp];split at he
     · rename_i hd;exact absurd he hd
     · rename_i hd
       rw[if_neg hd];exact .inr (dir_got (Decidable.not_not.1 hd)).1
   · rename_i hp
     rw[if_neg hp];exact go_ino h _ _ _ _ _ _ he
end Go.Proofs.YtbjkkijickbppaaGreatDoor
namespace Go.Proofs.YtbjkkijickbppaaGreatDoor
theorem parts_ne (p:Str) : ∀q∈parts p,q≠ []:=by
 intro q hq;unfold parts at hq;obtain⟨s,hs,rfl⟩:=List.mem_map.1 hq;have h1:=spans_bd p s hs;have h2:=cutS_len p s hs;intro e;rw[e]at h2;simp at h2;omega
theorem checkE_parts (l:Str):checkE l=if l = []then 2 else if 100<l.length then 9 else if(0:UInt8)∈l then 1 else if(parts l).any (fun q=>decide (12<q.length))then 9 else 0:=by
 have h:(spans l).any (fun p=>decide (12<p.2-p.1))=(parts l).any (fun q=>decide (12<q.length)):=by
  unfold parts;rw[Bool.eq_iff_iff,List.any_eq_true,List.any_eq_true];constructor
  · rintro⟨s,hs,h⟩
    refine⟨cutS l s,List.mem_map.2 ⟨s,hs,rfl⟩,?_⟩;rw[cutS_len l s hs];exact h
  · rintro⟨q,hq,h⟩
    obtain⟨s,hs,rfl⟩:=List.mem_map.1 hq;rw[cutS_len l s hs]at h;exact⟨s,hs,h⟩
 unfold checkE;rw[h]
end Go.Proofs.YtbjkkijickbppaaGreatDoor
namespace Go.Proofs.YtbjkkijickbppaaGreatDoor
def SpotOk (l:List NodeL)(s:SpotL):Prop :=
 dirE l s.dir=0∧(s.name = []→s.ino=s.dir)∧(s.name≠ []→s.ino=lookL l s.dir s.name)
theorem spot_go {l:List NodeL}(hr:RightP l)(who:Int)(follow slash:Bool) : ∀i ps hops,(∀q∈ps,q≠ [])→(goW l who follow slash i ps hops).2=0→SpotOk l (goW l who follow slash i ps hops).1:=by
 refine go_ind l who follow slash (fun i ps hops R=>(∀q∈ps,q≠ [])→R.2=0→SpotOk l R.1) ?_ ?_ ?_ ?_ ?_ ?_ ?_ ?_ ?_ ?_ ?_
 · intro i hops _ _;exact⟨(right_root hr).1,fun _=>rfl,fun h=>absurd rfl h⟩
 · intro i hops p rest hd _ he;exact absurd he hd
 · intro i hops p rest _ _ _ he;cases he
 · intro i hops p hd _ hn hp _
   refine⟨hd,fun e=>absurd e (hp p (by simp)),fun _=> ?_⟩;exact((look_neg hr hd p).1 hn).symm
 · intro i hops p rest _ _ _ _ _ he;cases he
 · intro i hops p rest _ _ _ _ _ _ _ he;cases he
 · intro i hops p rest _ _ _ _ _ _ hx _ he;exact absurd he hx
 · intro i hops p rest R _ _ _ _ _ _ _ ih hp he
   refine ih (fun q hq=> ?_) he;rcases List.mem_append.1 hq with hq | hq
   · exact parts_ne _ q hq
   · exact hp q (by simp[hq])
 · intro i hops p _ _ _ _ _ _ _ he;cases he
 · intro i hops p hd _ _ _ _ hp _;exact⟨hd,fun e=>absurd e (hp p (by simp)),fun _=>rfl⟩
 · intro i hops p rest R _ _ _ _ _ ih hp he;exact ih (fun q hq=>hp q (by simp[hq])) he
theorem law_spot {l:List NodeL}(hr:RightP l)(who fr:Int)(p:Str)(f:Bool)(h:(walkL l who fr p f).2=0):SpotOk l (walkL l who fr p f).1:=by
 unfold walkL at h ⊢;split at h
 · rename_i hc;exact absurd h hc
 · rename_i hc
   rw[if_neg hc];split at h
   · rename_i hp
     rw[if_pos hp];split at h
     · rename_i hd;exact absurd h hd
     · rename_i hd
       rw[if_neg hd];exact⟨Decidable.not_not.1 hd,fun _=>rfl,fun e=>absurd rfl e⟩
   · rename_i hp
     rw[if_neg hp];exact spot_go hr who f _ _ _ _ (parts_ne p) h
theorem check_short {p:Str}(h:checkE p=0):p.length≤100:=by
 unfold checkE at h;split at h
 · cases h
 · split at h
   · cases h
   · omega
theorem check_ne {p:Str}(h:checkE p=0):p≠ []:=by rintro rfl;cases h
theorem check_zero {p:Str}(h:checkE p=0):p≠ []∧p.length≤100∧(0:UInt8)∉p∧∀q∈parts p,q.length≤12:=by
 have hne:=check_ne h;have hl:=check_short h;rw[checkE_parts,if_neg hne,if_neg (by omega)]at h;split at h
 · cases h
 · rename_i h0
   split at h
   · cases h
   · rename_i h1
     refine⟨hne,hl,h0,fun q hq=> ?_⟩;exact Nat.le_of_not_lt fun hb=>h1 (List.any_eq_true.2 ⟨q,hq,decide_eq_true hb⟩)
end Go.Proofs.YtbjkkijickbppaaGreatDoor
