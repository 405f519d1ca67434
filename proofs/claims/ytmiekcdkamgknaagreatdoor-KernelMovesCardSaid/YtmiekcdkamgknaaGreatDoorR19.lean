import Derived.Laws.BitsLemmas
import Derived.Test.YtmiekcdkamgknaaGreatDoorR11
import Derived.Test.YtmiekcdkamgknaaGreatDoorProg
import Derived.Test.YtmiekcdkamgknaaGreatDoorR18
import Derived.Test.YtmiekcdkamgknaaGreatDoorR14
namespace Go.Proofs.YtmiekcdkamgknaaGreatDoor
open Go
theorem i64_mask (n:Int)(k:Nat)(hk:k≤6):bits .and .i64 n (((2 ^ k-1:Nat):Int))=n % ((2 ^ k:Nat):Int):=by
 have hk2:2 ^ k≤2 ^ 6:=Nat.pow_le_pow_right (by decide) hk;have hpos:0<2 ^ k:=Nat.two_pow_pos k
 have hm:(BitVec.ofInt 64 (((2 ^ k-1:Nat):Int))).toNat=2 ^ k-1:=by
  rw[BitVec.ofInt_natCast,BitVec.toNat_ofNat];exact Nat.mod_eq_of_lt (by omega)
 have hd:(2:Nat) ^ 64=2 ^ k*2 ^ (64-k):=by rw[←Nat.pow_add];congr 1;omega
 have key:(BitVec.ofInt 64 n &&& BitVec.ofInt 64 (((2 ^ k-1:Nat):Int))).toNat=(n % ((2 ^ 64:Nat):Int)).toNat % 2 ^ k:=by
  rw[BitVec.toNat_and,BitVec.toNat_ofInt,hm,Nat.and_two_pow_sub_one_eq_mod]
 show IntKind.i64.wrap ((BitVec.ofInt 64 n &&& BitVec.ofInt 64 (((2 ^ k-1:Nat):Int))).toNat:Nat)=_;rw[key,IntKind.wrap_i64]
 have h1:(((n % ((2 ^ 64:Nat):Int)).toNat % 2 ^ k:Nat):Int)=n % ((2 ^ k:Nat):Int):=by
  rw[Int.natCast_emod,Int.toNat_of_nonneg (Int.emod_nonneg _ (by decide))];rw[hd,Int.natCast_mul];exact Int.emod_emod_of_dvd _ (Int.dvd_mul_right _ _)
 rw[h1];have h2:=Int.emod_nonneg n (b:=((2 ^ k:Nat):Int)) (by omega);have h3:=Int.emod_lt_of_pos n (b:=((2 ^ k:Nat):Int)) (by omega);(have h4:((2 ^ k:Nat):Int)≤64:=by exact_mod_cast hk2);omega
theorem i64_and7 (n:Int):bits .and .i64 n 7=n % 8:=i64_mask n 3 (by decide)
abbrev V (n:Int):BitVec 64:=BitVec.ofInt 64 n
theorem wrap_back (x:BitVec 64):IntKind.i64.wrap (x.toNat:Int)=x.toInt:=by
 have h:=x.isLt;rw[IntKind.wrap_i64,BitVec.toInt_eq_toNat_cond];split<;>omega
theorem and_V (a b:Int):bits .and .i64 a b=(V a &&& V b).toInt:=wrap_back _
theorem andNot_V (a b:Int):bits .andNot .i64 a b=(V a &&& ~~~ V b).toInt:=wrap_back _
theorem V_toInt (x:BitVec 64):V x.toInt=x:=BitVec.ofInt_toInt
theorem toInt_zero_iff (x:BitVec 64):x.toInt=0↔x=0#64:=by
 constructor
 · intro h
   have:=V_toInt x;rw[h]at this;rw[←this];rfl
 · rintro rfl
   rfl
def subB (want rights:Int):Bool:=(V want &&& 7#64 &&& ~~~ (V rights &&& 7#64)) == 0#64
def mayB (m owner who want:Int):Bool:=if who=0 then true else subB want (if owner=who then m / 8 else m)
theorem sub_andNot (want rights:Int):(bits .andNot .i64 (want % 8) (rights % 8)=0)↔subB want rights=true:=by
 rw[←i64_and7,←i64_and7,andNot_V,and_V,and_V,V_toInt,V_toInt,toInt_zero_iff];unfold subB;rw[beq_iff_eq];rfl
theorem may_zero (m owner want:Int):mayB m owner 0 want=true:=by unfold mayB;rw[if_pos rfl]
def maskI (m u:Int):Int:=bits .andNot .i64 (m % 64) u
end Go.Proofs.YtmiekcdkamgknaaGreatDoor
namespace Go.Proofs.YtmiekcdkamgknaaGreatDoor
open Go.RowKit
theorem digit0_any (m:Int)(w:World):Calls Tryz.prog 193 #[.int .i64 m, .int .i64 0] w fun e w'=>e = .returned (.int .i64 (m / 8 % 8))∧w=w':=by
 go_enter Tryz.func193,Tryz.ntmps193;go_wp2;go_ret;exact⟨ret_int (i64_and7 _),rfl⟩
theorem digit1_any (m:Int)(w:World):Calls Tryz.prog 193 #[.int .i64 m, .int .i64 1] w fun e w'=>e = .returned (.int .i64 (m % 8))∧w=w':=by
 go_enter Tryz.func193,Tryz.ntmps193;go_wp2;go_ret;exact⟨ret_int (i64_and7 _),rfl⟩
theorem may_any (m owner who want:Int)(w:World):Calls Tryz.prog 166 #[.int .i64 m, .int .i64 owner, .int .i64 who, .int .i64 want] w fun e w'=>e = .returned (.bool (mayB m owner who want))∧w=w':=by
 by_cases h0:who=0
 · subst h0
   have H:Hid (mayB m owner 0 want=true):=Lib.hid (may_zero _ _ _);go_enter Tryz.func166,Tryz.ntmps166;go_wp2;go_ret;exact⟨ret_bool H.out.symm,rfl⟩
 · have h0I:(who == 0)=false:=by rw[beq_eq_false_iff_ne];exact h0
   by_cases ho:owner=who
   · have hoI:(owner == who)=true:=by rw[beq_iff_eq];exact ho
     have H:Hid (mayB m owner who want=subB want (m / 8)):=Lib.hid (by unfold mayB;rw[if_neg h0,if_pos ho]);clear h0 ho;go_enter Tryz.func166,Tryz.ntmps166;go_wp2_with fail;refine(digit1_any _ _).mono ?_;rintro e w1 ⟨rfl,rfl⟩;go_wp2_with fail;refine(digit0_any _ _).mono ?_;rintro e w1 ⟨rfl,rfl⟩;go_wp2;go_ret;refine⟨ret_bool ?_,rfl⟩;rw[H.out,i64_and7,Bool.eq_iff_iff,beq_iff_eq];exact sub_andNot _ _
   · have hoI:(owner == who)=false:=by rw[beq_eq_false_iff_ne];exact ho
     have H:Hid (mayB m owner who want=subB want m):=Lib.hid (by unfold mayB;rw[if_neg h0,if_neg ho]);clear h0 ho;go_enter Tryz.func166,Tryz.ntmps166;go_wp2_with fail;refine(digit1_any _ _).mono ?_;rintro e w1 ⟨rfl,rfl⟩;go_wp2;go_ret;refine⟨ret_bool ?_,rfl⟩;rw[H.out,i64_and7,Bool.eq_iff_iff,beq_iff_eq];exact sub_andNot _ _
end Go.Proofs.YtmiekcdkamgknaaGreatDoor
namespace Go.Proofs.YtmiekcdkamgknaaGreatDoor
structure SpotL where
 dir:Int
 name:Str
 ino:Int
 slash:Bool
def zeroS:SpotL:=⟨0,[],0,false⟩
theorem spot_ext {a b:SpotL}(h0:a.dir=b.dir)(h1:a.name=b.name)(h2:a.ino=b.ino)(h3:a.slash=b.slash):a=b:=by
 cases a;cases b;simp_all
instance:DecidableEq SpotL:=fun a b =>
 decidable_of_iff (a.dir=b.dir∧a.name=b.name∧a.ino=b.ino∧a.slash=b.slash) ⟨fun⟨h0,h1,h2,h3⟩=>spot_ext h0 h1 h2 h3,fun h=>by subst h;simp⟩
abbrev ResL:=SpotL × Int
def nodeL (l:List NodeL)(i:Int):NodeL:=if gotB l i=true then atI l i else zeroN
def dirE (l:List NodeL)(i:Int):Int:=if gotB l i=true then if(nodeL l i).kind=2 then 0 else 4 else 2
def lookL (l:List NodeL)(i:Int)(p:Str):Int:=if p = [46]then i else if p = [46,46]then(nodeL l i).up else(findL (nodeL l i).names p).getD (-1)
def firstAt (i:Int)(p:Str):Int:=if Lib.hasPrefix p [47]=true then 0 else i
def mayAt (l:List NodeL)(who i:Int):Bool:=mayB (nodeL l i).mode (nodeL l i).owner who 1
def goW (l:List NodeL)(who:Int)(follow slash:Bool)(i:Int)(ps:List Str)(hops:Nat):ResL :=
 match ps with
 | []=>(⟨0,[],0,slash⟩,0)
 | p::rest =>
    if dirE l i≠0 then(zeroS,dirE l i)
    else if mayAt l who i=false then(zeroS,7)
    else if lookL l i p<0 then if rest = []then(⟨i,p, -1,slash⟩,0)else(zeroS,2)
    else if(nodeL l (lookL l i p)).kind=3∧(rest≠ []∨follow=true∨slash=true)then
     if 8≤hops then(zeroS,8)
     else if checkE (nodeL l (lookL l i p)).data≠0 then(zeroS,checkE (nodeL l (lookL l i p)).data)
     else goW l who follow slash (firstAt i (nodeL l (lookL l i p)).data) (parts (nodeL l (lookL l i p)).data++rest) (hops+1)
    else if rest = []then if slash=true∧(nodeL l (lookL l i p)).kind≠2 then(zeroS,4)else(⟨i,p,lookL l i p,slash⟩,0)
    else goW l who follow slash (lookL l i p) rest hops
termination_by (9-hops,ps.length)
def walkL (l:List NodeL)(who fr:Int)(path:Str)(follow:Bool):ResL :=
 if checkE path≠0 then(zeroS,checkE path)
 else if parts path = []then if dirE l (firstAt fr path)≠0 then(zeroS,dirE l (firstAt fr path))else(⟨firstAt fr path,[],firstAt fr path,true⟩,0)
 else goW l who follow (Lib.hasSuffix path [47]) (firstAt fr path) (parts path) 0
def wnodeL (r:ResL):Int × Int:=if r.2≠0 then(0,r.2)else if r.1.ino<0 then(0,2)else(r.1.ino,0)
section
variable {l:List NodeL} {who:Int} {follow slash:Bool} {i:Int} {p:Str} {rest:List Str} {hops:Nat}
theorem go_nil:goW l who follow slash i [] hops=(⟨0,[],0,slash⟩,0):=by rw[goW]
theorem go_dir (h:dirE l i≠0):goW l who follow slash i (p::rest) hops=(zeroS,dirE l i):=by rw[goW,if_pos h]
theorem go_may (h:dirE l i=0)(h2:mayAt l who i=false):goW l who follow slash i (p::rest) hops=(zeroS,7):=by rw[goW,if_neg (by simp[h]),if_pos h2]
theorem go_none1 (h:dirE l i=0)(h2:mayAt l who i=true)(h3:lookL l i p<0)(h4:rest = []):goW l who follow slash i (p::rest) hops=(⟨i,p, -1,slash⟩,0):=by
 rw[goW,if_neg (by simp[h]),if_neg (by simp[h2]),if_pos h3,if_pos h4]
theorem go_none2 (h:dirE l i=0)(h2:mayAt l who i=true)(h3:lookL l i p<0)(h4:rest≠ []):goW l who follow slash i (p::rest) hops=(zeroS,2):=by
 rw[goW,if_neg (by simp[h]),if_neg (by simp[h2]),if_pos h3,if_neg h4]
theorem go_loop (h:dirE l i=0)(h2:mayAt l who i=true)(h3: ¬lookL l i p<0)(h4:(nodeL l (lookL l i p)).kind=3)(h5:rest≠ []∨follow=true∨slash=true)(h6:8≤hops) :
 goW l who follow slash i (p::rest) hops=(zeroS,8):=by
 rw[goW,if_neg (by simp[h]),if_neg (by simp[h2]),if_neg h3,if_pos ⟨h4,h5⟩,if_pos h6]
theorem go_bad (h:dirE l i=0)(h2:mayAt l who i=true)(h3: ¬lookL l i p<0)(h4:(nodeL l (lookL l i p)).kind=3)(h5:rest≠ []∨follow=true∨slash=true)(h6: ¬8≤hops)(h7:checkE (nodeL l (lookL l i p)).data≠0) :
 goW l who follow slash i (p::rest) hops=(zeroS,checkE (nodeL l (lookL l i p)).data):=by
 rw[goW,if_neg (by simp[h]),if_neg (by simp[h2]),if_neg h3,if_pos ⟨h4,h5⟩,if_neg h6,if_pos h7]
theorem go_link (h:dirE l i=0)(h2:mayAt l who i=true)(h3: ¬lookL l i p<0)(h4:(nodeL l (lookL l i p)).kind=3)(h5:rest≠ []∨follow=true∨slash=true)(h6: ¬8≤hops)(h7:checkE (nodeL l (lookL l i p)).data=0) :
 goW l who follow slash i (p::rest) hops=goW l who follow slash (firstAt i (nodeL l (lookL l i p)).data) (parts (nodeL l (lookL l i p)).data++rest) (hops+1):=by
 rw[goW,if_neg (by simp[h]),if_neg (by simp[h2]),if_neg h3,if_pos ⟨h4,h5⟩,if_neg h6,if_neg (by simp[h7])]
theorem go_file (h:dirE l i=0)(h2:mayAt l who i=true)(h3: ¬lookL l i p<0)(h4: ¬((nodeL l (lookL l i p)).kind=3∧(rest≠ []∨follow=true∨slash=true)))(h5:rest = [])(h6:slash=true∧(nodeL l (lookL l i p)).kind≠2) :
 goW l who follow slash i (p::rest) hops=(zeroS,4):=by
 rw[goW,if_neg (by simp[h]),if_neg (by simp[h2]),if_neg h3,if_neg h4,if_pos h5,if_pos h6]
theorem go_spot (h:dirE l i=0)(h2:mayAt l who i=true)(h3: ¬lookL l i p<0)(h4: ¬((nodeL l (lookL l i p)).kind=3∧(rest≠ []∨follow=true∨slash=true)))(h5:rest = [])(h6: ¬(slash=true∧(nodeL l (lookL l i p)).kind≠2)) :
 goW l who follow slash i (p::rest) hops=(⟨i,p,lookL l i p,slash⟩,0):=by
 rw[goW,if_neg (by simp[h]),if_neg (by simp[h2]),if_neg h3,if_neg h4,if_pos h5,if_neg h6]
theorem go_on (h:dirE l i=0)(h2:mayAt l who i=true)(h3: ¬lookL l i p<0)(h4:(nodeL l (lookL l i p)).kind≠3)(h5:rest≠ []) :
 goW l who follow slash i (p::rest) hops=goW l who follow slash (lookL l i p) rest hops:=by
 rw[goW,if_neg (by simp[h]),if_neg (by simp[h2]),if_neg h3,if_neg (fun h=>h4 h.1),if_neg h5]
end
def RightP (l:List NodeL):Prop:=∃most room,rightR l most room=true
theorem right_ok {l:List NodeL}(h:RightP l){i:Int}(hi:gotB l i=true) : ∃k:Nat,i=k∧∃hk:k<l.length,nodeL l i=l[k]∧l[k].kind≠0∧okR l k l[k]=true:=by
 obtain⟨most,room,h⟩:=h;have hg:=hi;unfold gotB at hi;rw[Bool.and_eq_true]at hi;obtain⟨k,rfl,hk⟩:=in_nat hi.1;have hat:=at_nat l k hk;refine⟨k,rfl,hk,?_,?_,?_⟩
 · unfold nodeL;rw[if_pos hg,hat]
 · have:=hi.2;rw[hat]at this;simpa using this
 · unfold rightR at h
   rw[Bool.and_eq_true]at h;have:=(range_all _ _).1 h.2 k hk;rw[hat]at this;exact this
theorem right_len {l:List NodeL}(h:RightP l):0<l.length∧(atI l 0).kind=2:=by
 obtain⟨most,room,h⟩:=h;unfold rightR at h;simp only[Bool.and_eq_true,decide_eq_true_iff,Bool.not_eq_true',decide_eq_false_iff_not]at h;exact⟨by omega,h.1.2⟩
theorem right_root {l:List NodeL}(h:RightP l):dirE l 0=0∧gotB l 0=true:=by
 obtain⟨h1,h2⟩:=right_len h
 have hg:gotB l 0=true:=by
  have h3:inL l 0=true:=nat_in (l:=l) (k:=0) h1;unfold gotB;rw[h3,h2];rfl
 refine⟨?_,hg⟩;unfold dirE nodeL;rw[if_pos hg,if_pos hg,if_pos h2]
theorem dir_got {l:List NodeL}{i:Int}(h:dirE l i=0):gotB l i=true∧(nodeL l i).kind=2:=by
 unfold dirE at h;split at h
 · rename_i hg
   split at h
   · exact⟨hg,‹_›⟩
   · cases h
 · cases h
theorem got_dir {l:List NodeL}{i:Int}(h:gotB l i=true)(h2:(nodeL l i).kind=2):dirE l i=0:=by
 unfold dirE;rw[if_pos h,if_pos h2]
theorem got_le {l:List NodeL}{i:Int}(h:gotB l i=true):0≤i∧i<l.length:=by
 unfold gotB inL at h;simp only[Bool.and_eq_true,decide_eq_true_iff]at h;exact h.1
theorem okR_parts {l:List NodeL}{k:Nat}{n:NodeL}(h0:n.kind≠0)(h:okR l k n=true):1≤n.kind∧n.kind≤3∧SortedP n.names∧namableB l n.names=true∧(n.kind≠2→n.names = [])∧lastR l k n (nmL l k (0, -1))=true:=by
 unfold okR at h;rw[if_neg h0]at h;simp only[Bool.and_eq_true,decide_eq_true_iff,Bool.or_eq_true]at h;obtain⟨⟨⟨⟨⟨h1,h2⟩,h3⟩,h4⟩,h5⟩,h6⟩:=h;unfold plainB at h1;simp only[Bool.and_eq_true,decide_eq_true_iff]at h1;refine⟨h1.1.1.1.1,h1.1.1.1.2,h4,h5,fun hk=> ?_,h6⟩;rcases h2 with h2 | h2
 · exact absurd h2 hk
 · exact List.eq_nil_of_length_eq_zero h2
theorem rootR_up {l:List NodeL}{f:Nat}{j:Int}(h:rootR l (f+1) j=true):j=0∨(gotB l j=true∧(atI l j).kind=2∧rootR l f (atI l j).up=true):=by
 unfold rootR at h;split at h
 · exact .inl ‹_›
 · split at h
   · rename_i h1
     simp only[Bool.and_eq_true,decide_eq_true_iff]at h1;exact .inr ⟨h1.1,h1.2,h⟩
   · cases h
theorem right_up {l:List NodeL}(h:RightP l){i:Int}(hi:dirE l i=0):dirE l (nodeL l i).up=0:=by
 obtain⟨hg,hk⟩:=dir_got hi;obtain⟨k,rfl,hlt,hn,h0,hok⟩:=right_ok h hg;obtain⟨_,_,_,_,_,hl⟩:=okR_parts h0 hok;rw[hn]at hk ⊢;have h00:=(right_root h).1;unfold lastR at hl;split at hl
 · simp only[Bool.and_eq_true,decide_eq_true_iff]at hl
   rw[hl.1.2];exact h00
 · split at hl
   · cases hl
   · rw[if_neg (by simpa using hk)]at hl
     split at hl
     · simp only[Bool.and_eq_true,decide_eq_true_iff]at hl
       rw[hl.2];exact h00
     · simp only[Bool.and_eq_true,decide_eq_true_iff]at hl
       rcases rootR_up hl.2 with h1 | ⟨_,_,h2⟩
       · rename_i hne _ _
         exact absurd h1 hne
       · rw[at_nat l k hlt]at h2
         obtain⟨f,hf⟩ : ∃f,l.length=f+1:=⟨l.length-1,by omega⟩;rw[hf]at h2;rcases rootR_up h2 with h3 | ⟨h3,h4,_⟩
         · rw[h3];exact h00
         · exact got_dir h3 (by unfold nodeL;rw[if_pos h3];exact h4)
theorem findL_mem {l:List EntL}{n:Nm}{i:Int}(h:findL l n=some i):(n,i)∈l:=by
 unfold findL at h;obtain⟨e,he,rfl⟩:=Option.map_eq_some_iff.1 h;have h1:=List.mem_of_find?_eq_some he;have h2:=List.find?_some he;(have h3:e.1=n:=by simpa using h2);rw[←h3];exact h1
theorem right_look {l:List NodeL}(h:RightP l){i:Int}(hi:dirE l i=0)(p:Str):lookL l i p = -1∨gotB l (lookL l i p)=true:=by
 obtain⟨hg,hk⟩:=dir_got hi;unfold lookL;split
 · exact .inr hg
 · split
   · exact .inr (dir_got (right_up h hi)).1
   · cases hf:findL (nodeL l i).names p with
     | none=>exact .inl rfl
     | some j =>
        obtain⟨k,rfl,hlt,hn,h0,hok⟩:=right_ok h hg;obtain⟨_,_,_,h4,_,_⟩:=okR_parts h0 hok;rw[hn]at hf;unfold namableB at h4;have h5:=List.all_eq_true.1 h4 _ (findL_mem hf);unfold namB at h5;simp only[Bool.and_eq_true]at h5;exact .inr h5.1
theorem look_neg {l:List NodeL}(h:RightP l){i:Int}(hi:dirE l i=0)(p:Str):lookL l i p<0↔lookL l i p = -1:=by
 rcases right_look h hi p with h1 | h1
 · rw[h1];decide
 · have:=got_le h1;omega
theorem look_got {l:List NodeL}(h:RightP l){i:Int}(hi:dirE l i=0)(p:Str):gotB l (lookL l i p)=true↔ ¬lookL l i p<0:=by
 rcases right_look h hi p with h1 | h1
 · rw[h1]
   exact⟨fun h=>by have:=got_le h;omega,fun h=>by omega⟩
 · have:=got_le h1
   exact⟨fun _=>by omega,fun _=>h1⟩
theorem right_kind {l:List NodeL}(h:RightP l){i:Int}(hi:gotB l i=true):(nodeL l i).kind=1∨(nodeL l i).kind=2∨(nodeL l i).kind=3:=by
 obtain⟨k,rfl,hlt,hn,h0,hok⟩:=right_ok h hi;obtain⟨h1,h2,_⟩:=okR_parts h0 hok;rw[hn];omega
theorem right_sorted {l:List NodeL}(h:RightP l)(i:Int):SortedP (nodeL l i).names:=by
 cases hg:gotB l i with
 | false=>unfold nodeL;rw[hg];exact sorted_nil
 | true =>
    obtain⟨k,rfl,hlt,hn,h0,hok⟩:=right_ok h hg;rw[hn];exact(okR_parts h0 hok).2.2.1
theorem go_stuck {l:List NodeL}{who:Int}{follow slash:Bool}{i:Int}{p q:Str}{rest:List Str}{hops:Nat}(h:dirE l i=0)(h2:mayAt l who i=true)(h3:gotB l (lookL l i p)=true)(h3': ¬lookL l i p<0)(h4:(nodeL l (lookL l i p)).kind=1) :
 goW l who follow slash i (p::q::rest) hops=(zeroS,4):=by
 rw[go_on h h2 h3' (by rw[h4];decide) (by simp)];(have:dirE l (lookL l i p)=4:=by unfold dirE;rw[if_pos h3,if_neg (by rw[h4];decide)]);rw[go_dir (by rw[this];decide),this]
end Go.Proofs.YtmiekcdkamgknaaGreatDoor
namespace Go.Proofs.YtmiekcdkamgknaaGreatDoor
theorem go_ind (l:List NodeL)(who:Int)(follow slash:Bool)(M:Int→List Str→Nat→ResL→Prop)
 (nil : ∀i hops,M i [] hops (⟨0,[],0,slash⟩,0))
 (dir : ∀i hops p rest,dirE l i≠0→M i (p::rest) hops (zeroS,dirE l i))
 (may : ∀i hops p rest,dirE l i=0→mayAt l who i=false→M i (p::rest) hops (zeroS,7))
 (none1 : ∀i hops p,dirE l i=0→mayAt l who i=true→lookL l i p<0→M i [p] hops (⟨i,p, -1,slash⟩,0))
 (none2 : ∀i hops p rest,dirE l i=0→mayAt l who i=true→lookL l i p<0→rest≠ []→M i (p::rest) hops (zeroS,2))
 (loop : ∀i hops p rest,dirE l i=0→mayAt l who i=true→¬lookL l i p<0→(nodeL l (lookL l i p)).kind=3→(rest≠ []∨follow=true∨slash=true)→8≤hops→M i (p::rest) hops (zeroS,8))
 (bad : ∀i hops p rest,dirE l i=0→mayAt l who i=true→¬lookL l i p<0→(nodeL l (lookL l i p)).kind=3→(rest≠ []∨follow=true∨slash=true)→¬8≤hops→checkE (nodeL l (lookL l i p)).data≠0→M i (p::rest) hops (zeroS,checkE (nodeL l (lookL l i p)).data))
 (link : ∀i hops p rest R,dirE l i=0→mayAt l who i=true→¬lookL l i p<0→(nodeL l (lookL l i p)).kind=3→(rest≠ []∨follow=true∨slash=true)→¬8≤hops→checkE (nodeL l (lookL l i p)).data=0 →
   M (firstAt i (nodeL l (lookL l i p)).data) (parts (nodeL l (lookL l i p)).data++rest) (hops+1) R→M i (p::rest) hops R)
 (file : ∀i hops p,dirE l i=0→mayAt l who i=true→¬lookL l i p<0→¬((nodeL l (lookL l i p)).kind=3∧(follow=true∨slash=true))→slash=true→(nodeL l (lookL l i p)).kind≠2→M i [p] hops (zeroS,4))
 (spot : ∀i hops p,dirE l i=0→mayAt l who i=true→¬lookL l i p<0→¬((nodeL l (lookL l i p)).kind=3∧(follow=true∨slash=true))→¬(slash=true∧(nodeL l (lookL l i p)).kind≠2)→M i [p] hops (⟨i,p,lookL l i p,slash⟩,0))
 (on : ∀i hops p rest R,dirE l i=0→mayAt l who i=true→¬lookL l i p<0→(nodeL l (lookL l i p)).kind≠3→rest≠ []→M (lookL l i p) rest hops R→M i (p::rest) hops R) :
 ∀i ps hops,M i ps hops (goW l who follow slash i ps hops):=by
 intro i ps hops
 induction i,ps,hops using goW.induct l who follow slash with
 | case1 i hops=>rw[go_nil];exact nil i hops
 | case2 i hops p rest h=>rw[go_dir h];exact dir _ _ _ _ h
 | case3 i hops p rest h h2 =>
    have h:=Decidable.not_not.1 h;rw[go_may h h2];exact may _ _ _ _ h h2
 | case4 i hops p h h2 h3 =>
    have h:=Decidable.not_not.1 h;have h2:=Bool.not_eq_false _▸h2;rw[go_none1 h h2 h3 rfl];exact none1 _ _ _ h h2 h3
 | case5 i hops p rest h h2 h3 h4 =>
    have h:=Decidable.not_not.1 h;have h2:=Bool.not_eq_false _▸h2;rw[go_none2 h h2 h3 h4];exact none2 _ _ _ _ h h2 h3 h4
 | case6 i hops p rest h h2 h3 h4 h5 =>
    have h:=Decidable.not_not.1 h;have h2:=Bool.not_eq_false _▸h2;rw[go_loop h h2 h3 h4.1 h4.2 h5];exact loop _ _ _ _ h h2 h3 h4.1 h4.2 h5
 | case7 i hops p rest h h2 h3 h4 h5 h6 =>
    have h:=Decidable.not_not.1 h;have h2:=Bool.not_eq_false _▸h2;rw[go_bad h h2 h3 h4.1 h4.2 h5 h6];exact bad _ _ _ _ h h2 h3 h4.1 h4.2 h5 h6
 | case8 i hops p rest h h2 h3 h4 h5 h6 ih =>
    have h:=Decidable.not_not.1 h;have h2:=Bool.not_eq_false _▸h2;have h6:=Decidable.not_not.1 h6;rw[go_link h h2 h3 h4.1 h4.2 h5 h6];exact link _ _ _ _ _ h h2 h3 h4.1 h4.2 h5 h6 ih
 | case9 i hops p h h2 h3 h4 h5 =>
    have h:=Decidable.not_not.1 h;have h2:=Bool.not_eq_false _▸h2;rw[go_file h h2 h3 h5 rfl h4];exact file _ _ _ h h2 h3 (fun h=>h5 ⟨h.1, .inr h.2⟩) h4.1 h4.2
 | case10 i hops p h h2 h3 h4 h5 =>
    have h:=Decidable.not_not.1 h;have h2:=Bool.not_eq_false _▸h2;rw[go_spot h h2 h3 h5 rfl h4];exact spot _ _ _ h h2 h3 (fun h=>h5 ⟨h.1, .inr h.2⟩) h4
 | case11 i hops p rest h h2 h3 h4 h5 ih =>
    have h:=Decidable.not_not.1 h;have h2:=Bool.not_eq_false _▸h2;(have hk:(nodeL l (lookL l i p)).kind≠3:=fun hk=>h4 ⟨hk, .inl h5⟩);rw[go_on h h2 h3 hk h5];exact on _ _ _ _ _ h h2 h3 hk h5 ih
theorem go_ino {l:List NodeL}(h:RightP l)(who:Int)(follow slash:Bool) : ∀i ps hops,(goW l who follow slash i ps hops).2=0→(goW l who follow slash i ps hops).1.ino = -1∨gotB l (goW l who follow slash i ps hops).1.ino=true:=by
 refine go_ind l who follow slash (fun _ _ _ R=>R.2=0→R.1.ino = -1∨gotB l R.1.ino=true) ?_ ?_ ?_ ?_ ?_ ?_ ?_ ?_ ?_ ?_ ?_
 · intro i hops _;exact .inr (right_root h).2
 · intro i hops p rest hd he;exact absurd he hd
 · intro i hops p rest _ _ he;cases he
 · intro i hops p _ _ _ _;exact .inl rfl
 · intro i hops p rest _ _ _ _ he;cases he
 · intro i hops p rest _ _ _ _ _ _ he;cases he
 · intro i hops p rest _ _ _ _ _ _ hc he;exact absurd he hc
 · intro i hops p rest R _ _ _ _ _ _ _ ih;exact ih
 · intro i hops p _ _ _ _ _ _ he;cases he
 · intro i hops p hd _ hn _ _ _;exact .inr ((look_got h hd p).2 hn)
 · intro i hops p rest R _ _ _ _ _ ih;exact ih
theorem walk_ino {l:List NodeL}(h:RightP l)(who fr:Int)(path:Str)(follow:Bool)(he:(walkL l who fr path follow).2=0):(walkL l who fr path follow).1.ino = -1∨gotB l (walkL l who fr path follow).1.ino=true:=by
 unfold walkL at he ⊢;split at he
 · rename_i hc;exact absurd he hc
 · rename_i hc
   rw[if_neg hc];split at he
   · rename_i hp
     rw[if_pos hp];split at he
     · rename_i hd;exact absurd he hd
     · rename_i hd
       rw[if_neg hd];exact .inr (dir_got (Decidable.not_not.1 hd)).1
   · rename_i hp
     rw[if_neg hp];exact go_ino h _ _ _ _ _ _ he
end Go.Proofs.YtmiekcdkamgknaaGreatDoor
namespace Go.Proofs.YtmiekcdkamgknaaGreatDoor
theorem parts_ne (p:Str) : ∀q∈parts p,q≠ []:=by
 intro q hq;unfold parts at hq;obtain⟨s,hs,rfl⟩:=List.mem_map.1 hq;have h1:=spans_bd p s hs;have h2:=cutS_len p s hs;intro e;rw[e]at h2;simp at h2;omega
theorem checkE_parts (l:Str):checkE l=if l = []then 2 else if 100<l.length then 9 else if(0:UInt8)∈l then 1 else if(parts l).any (fun q=>decide (12<q.length))then 9 else 0:=by
 have h:(spans l).any (fun p=>decide (12<p.2-p.1))=(parts l).any (fun q=>decide (12<q.length)):=by
  unfold parts;rw[Bool.eq_iff_iff,List.any_eq_true,List.any_eq_true];constructor
  · rintro⟨s,hs,h⟩
    refine⟨cutS l s,List.mem_map.2 ⟨s,hs,rfl⟩,?_⟩;rw[cutS_len l s hs];exact h
  · rintro⟨q,hq,h⟩
    obtain⟨s,hs,rfl⟩:=List.mem_map.1 hq;rw[cutS_len l s hs]at h;exact⟨s,hs,h⟩
 unfold checkE;rw[h]
end Go.Proofs.YtmiekcdkamgknaaGreatDoor
namespace Go.Proofs.YtmiekcdkamgknaaGreatDoor
def SpotOk (l:List NodeL)(s:SpotL):Prop :=
 dirE l s.dir=0∧(s.name = []→s.ino=s.dir)∧(s.name≠ []→s.ino=lookL l s.dir s.name)
theorem spot_go {l:List NodeL}(hr:RightP l)(who:Int)(follow slash:Bool) : ∀i ps hops,(∀q∈ps,q≠ [])→(goW l who follow slash i ps hops).2=0→SpotOk l (goW l who follow slash i ps hops).1:=by
 refine go_ind l who follow slash (fun i ps hops R=>(∀q∈ps,q≠ [])→R.2=0→SpotOk l R.1) ?_ ?_ ?_ ?_ ?_ ?_ ?_ ?_ ?_ ?_ ?_
 · intro i hops _ _;exact⟨(right_root hr).1,fun _=>rfl,fun h=>absurd rfl h⟩
 · intro i hops p rest hd _ he;exact absurd he hd
 · intro i hops p rest _ _ _ he;cases he
 · intro i hops p hd _ hn hp _
   refine⟨hd,fun e=>absurd e (hp p (by simp)),fun _=> ?_⟩;exact((look_neg hr hd p).1 hn).symm
 · intro i hops p rest _ _ _ _ _ he;cases he
 · intro i hops p rest _ _ _ _ _ _ _ he;cases he
 · intro i hops p rest _ _ _ _ _ _ hx _ he;exact absurd he hx
 · intro i hops p rest R _ _ _ _ _ _ _ ih hp he
   refine ih (fun q hq=> ?_) he;rcases List.mem_append.1 hq with hq | hq
   · exact parts_ne _ q hq
   · exact hp q (by simp[hq])
 · intro i hops p _ _ _ _ _ _ _ he;cases he
 · intro i hops p hd _ _ _ _ hp _;exact⟨hd,fun e=>absurd e (hp p (by simp)),fun _=>rfl⟩
 · intro i hops p rest R _ _ _ _ _ ih hp he;exact ih (fun q hq=>hp q (by simp[hq])) he
theorem law_spot {l:List NodeL}(hr:RightP l)(who fr:Int)(p:Str)(f:Bool)(h:(walkL l who fr p f).2=0):SpotOk l (walkL l who fr p f).1:=by
 unfold walkL at h ⊢;split at h
 · rename_i hc;exact absurd h hc
 · rename_i hc
   rw[if_neg hc];split at h
   · rename_i hp
     rw[if_pos hp];split at h
     · rename_i hd;exact absurd h hd
     · rename_i hd
       rw[if_neg hd];exact⟨Decidable.not_not.1 hd,fun _=>rfl,fun e=>absurd rfl e⟩
   · rename_i hp
     rw[if_neg hp];exact spot_go hr who f _ _ _ _ (parts_ne p) h
theorem check_short {p:Str}(h:checkE p=0):p.length≤100:=by
 unfold checkE at h;split at h
 · cases h
 · split at h
   · cases h
   · omega
theorem no_part {path:Str}(h:checkE path=0)(hp:parts path = []):Lib.hasPrefix path [47]=true:=by
 (have hne:path≠ []:=by rintro rfl;cases h);have hall:=spans_none (l:=path) (by simpa[parts]using hp);rw[pre_eq]
 cases path with
 | nil=>exact absurd rfl hne
 | cons c r =>
    have:=hall 0 (Nat.le_refl _) (by simp);simp at this;simp[this]
theorem join_go {l:List NodeL}(who:Int)(sp f sl:Bool){qs:List Str}(hq:qs≠ []) : ∀i ps hops,(ps = []→i=0)→(goW l who true sp i ps hops).2=0→0≤(goW l who true sp i ps hops).1.ino →
 ∃h2,hops≤h2∧goW l who f sl i (ps++qs) hops=goW l who f sl (goW l who true sp i ps hops).1.ino qs h2:=by
 refine go_ind l who true sp (fun i ps hops R=>(ps = []→i=0)→R.2=0→0≤R.1.ino→∃h2,hops≤h2∧goW l who f sl i (ps++qs) hops=goW l who f sl R.1.ino qs h2) ?_ ?_ ?_ ?_ ?_ ?_ ?_ ?_ ?_ ?_ ?_
 · intro i hops h0 _ _
   exact⟨hops,Nat.le_refl _,by rw[h0 rfl,List.nil_append]⟩
 · intro i hops p rest hd _ he;exact absurd he hd
 · intro i hops p rest _ _ _ he;cases he
 · intro i hops p _ _ _ _ _ hi
   exact absurd hi (show ¬(0:Int)≤ -1 by decide)
 · intro i hops p rest _ _ _ _ _ he;cases he
 · intro i hops p rest _ _ _ _ _ _ _ he;cases he
 · intro i hops p rest _ _ _ _ _ _ hx _ he;exact absurd he hx
 · intro i hops p rest R hd hm hn hk _ h8 hx ih _ he hi
   have h0:parts (nodeL l (lookL l i p)).data++rest = []→firstAt i (nodeL l (lookL l i p)).data=0:=fun e0=>by
    have hp:=(List.append_eq_nil_iff.1 e0).1;unfold firstAt;rw[if_pos (no_part hx hp)]
   obtain⟨h2,hle,e⟩:=ih h0 he hi;refine⟨h2,by omega,?_⟩;rw[List.cons_append,go_link hd hm hn hk (.inl (by simp[hq])) h8 hx,←List.append_assoc,e]
 · intro i hops p _ _ _ _ _ _ _ he;cases he
 · intro i hops p hd hm hn hk _ _ _ _
   refine⟨hops,Nat.le_refl _,?_⟩;rw[List.singleton_append,go_on hd hm hn (fun h=>hk ⟨h, .inl rfl⟩) hq]
 · intro i hops p rest R hd hm hn hk hr ih _ he hi
   obtain⟨h2,hle,e⟩:=ih (fun e0=>absurd e0 hr) he hi;refine⟨h2,hle,?_⟩;rw[List.cons_append,go_on hd hm hn hk (by simp[hr]),e]
theorem node_ok {R:ResL}{j:Int}(h:wnodeL R=(j,0)):R.2=0∧0≤R.1.ino∧R.1.ino=j:=by
 unfold wnodeL at h;split at h
 · rename_i hne
   exact absurd (congrArg Prod.snd h) hne
 · rename_i h0
   split at h
   · cases h
   · rename_i hi
     exact⟨Decidable.not_not.1 h0,by omega,congrArg Prod.fst h⟩
theorem check_ne {p:Str}(h:checkE p=0):p≠ []:=by rintro rfl;cases h
theorem check_zero {p:Str}(h:checkE p=0):p≠ []∧p.length≤100∧(0:UInt8)∉p∧∀q∈parts p,q.length≤12:=by
 have hne:=check_ne h;have hl:=check_short h;rw[checkE_parts,if_neg hne,if_neg (by omega)]at h;split at h
 · cases h
 · rename_i h0
   split at h
   · cases h
   · rename_i h1
     refine⟨hne,hl,h0,fun q hq=> ?_⟩;exact Nat.le_of_not_lt fun hb=>h1 (List.any_eq_true.2 ⟨q,hq,decide_eq_true hb⟩)
end Go.Proofs.YtmiekcdkamgknaaGreatDoor
