import Derived.Lib.Strings
import Derived.Laws.RangeAny
import Derived.Test.YtkoaicabkgaglaaGreatDoorR11
import Derived.Test.YtkoaicabkgaglaaGreatDoorShelf
import Derived.Laws.Runes
import Derived.Lib.Builder
import Derived.Deep.WholeRow
import Derived.WalkMore
import Derived.Lib.OthersKept
import Derived.Lib.QuietBelow
import Derived.Deep.DrawnRows
import Derived.Laws.Cover1
import Derived.Shelf.SlSorted.Search
import Derived.Shelf.Spec.SlicesGrow
import Derived.StillTailTactics
namespace Go.Proofs.YtkoaicabkgaglaaGreatDoor
abbrev Nm:=List UInt8
abbrev EntL:=Nm × Int
theorem lt_irr (a:Nm): ¬a<a:=List.lt_irrefl a
theorem lt_tr {a b c:Nm}(h:a<b)(g:b<c):a<c:=List.lt_trans h g
theorem lt_as {a b:Nm}(h:a<b): ¬b<a:=List.lt_asymm h
theorem lt_eq {a b:Nm}(h: ¬a<b)(g: ¬b<a):a=b:=List.le_antisymm (List.not_lt.1 g) (List.not_lt.1 h)
theorem lt_ne {a b:Nm}(h:a<b):a≠b:=fun e=>by subst e;exact lt_irr _ h
def barredL (c:UInt8):Bool:=c == 47 || c == 0
def legalL (s:Nm):Int:=if s = []∨s = [46]∨s = [46,46]∨s.any barredL=true then 1 else if 12<s.length then 9 else 0
theorem legal_len {s:Nm}(h:legalL s=0):s.length≤12:=by
 unfold legalL at h;split at h
 · cases h
 · split at h
   · cases h
   · omega
def Up (l:List EntL):Prop:=l.Pairwise fun a b=>a.1<b.1
def SortedP (l:List EntL):Prop:=(∀e∈l,legalL e.1=0)∧Up l
instance (l:List EntL):Decidable (SortedP l):=by unfold SortedP Up;infer_instance
theorem SortedP.sub {l m:List EntL}(h:SortedP l)(hs:List.Sublist m l):SortedP m :=
 ⟨fun e he=>h.1 e (hs.subset he),h.2.sublist hs⟩
theorem sorted_nil:SortedP []:=⟨fun _ h=>(by cases h),List.Pairwise.nil⟩
theorem sorted_succ {l:List EntL}{k:Nat}(h:k<l.length)(hs:SortedP (l.take k))(hl:legalL l[k].1=0)(ho : ∀j (hj:j<l.length),k=j+1→l[j].1<l[k].1):SortedP (l.take (k+1)):=by
 rw[List.take_succ_eq_append_getElem h];refine⟨fun e he=> ?_,?_⟩
 · rcases List.mem_append.1 he with he | he
   · exact hs.1 e he
   · obtain rfl:=List.mem_singleton.1 he
     exact hl
 · refine List.pairwise_append.2 ⟨hs.2,List.pairwise_singleton _ _,fun a ha b hb=> ?_⟩
   obtain rfl:=List.mem_singleton.1 hb;obtain⟨i,hi,rfl⟩:=List.mem_iff_getElem.1 ha;rw[List.length_take]at hi;(have hik:i<k:=by omega);obtain⟨j,rfl⟩ : ∃j,k=j+1:=⟨k-1,by omega⟩;have h1:=ho j (by omega) rfl;rw[List.getElem_take];rcases Nat.lt_or_ge i j with h2 | h2
   · have:=List.pairwise_iff_getElem.1 hs.2 i j (by rw[List.length_take];omega) (by rw[List.length_take];omega) h2
     rw[List.getElem_take,List.getElem_take]at this;exact lt_tr this h1
   · obtain rfl:i=j:=by omega
     exact h1
theorem sorted_order {l:List EntL}(hs:SortedP l){j k:Nat}(hk:k<l.length)(h:k=j+1):(l[j]'(by omega)).1<l[k].1 :=
 List.pairwise_iff_getElem.1 hs.2 j k (by omega) hk (by omega)
def lo (l:List EntL)(n:Nm):List EntL:=l.filter fun e=>decide (e.1<n)
def hi (l:List EntL)(n:Nm):List EntL:=l.filter fun e=>decide (n<e.1)
def findL (l:List EntL)(n:Nm):Option Int:=(l.find? fun e=>e.1 == n).map (·.2)
def dropL (l:List EntL)(n:Nm):List EntL:=l.filter fun e=> !(e.1 == n)
def putL (l:List EntL)(e:EntL):List EntL:=lo l e.1++e::hi l e.1
end Go.Proofs.YtkoaicabkgaglaaGreatDoor
namespace Go.Proofs.YtkoaicabkgaglaaGreatDoor
def xs (l:List UInt8):Nat:=(l.reverse.takeWhile (fun c=>c == 88)).length
theorem get_list (s:ByteArray)(i:Nat)(h:i<s.data.toList.length):s.get! i=s.data.toList[i]:=by
 (have h':i<s.size:=by simpa using h);have:=get_at s i h';simp only[Nat.add_zero]at this;rw[this];rfl
theorem dec_low (s:ByteArray)(pos:Nat)(h:pos<s.size)(ha:(s[pos]'h).toNat<128):Utf8.decode s pos=((s[pos]'h).toNat,1):=decode_ascii s pos h ha
theorem dec_high (s:ByteArray)(pos:Nat)(h:pos<s.size)(ha:128≤(s[pos]'h).toNat) :
 pos+(Utf8.decode s pos).2≤s.size∧∀j,j<(Utf8.decode s pos).2→128≤(s.get! (pos+j)).toNat:=by
 have h0:=get_at s pos h;(have hn: ¬(s[pos]'h).toNat<128:=by omega);(have ha0:128≤(s.get! (pos+0)).toNat:=by rw[h0];exact ha);simp only[Utf8.decode,h0,hn,if_false]
 repeat' split
 all_goals (simp only[Bool.and_eq_true,decide_eq_true_eq,beq_iff_eq]at *)
 all_goals (refine⟨by omega,fun j hj=> ?_⟩)
 all_goals (have hj':j=0∨j=1∨j=2∨j=3:=by omega)
 all_goals (rcases hj' with rfl | rfl | rfl | rfl<;>omega)
theorem dec_list (s:ByteArray)(pos:Nat)(h:pos<s.size)(ha:128≤(s[pos]'h).toNat) :
 ∃r:List UInt8,r≠ []∧(∀c∈r,128≤c.toNat)∧s.data.toList.take (pos+(Utf8.decode s pos).2)=s.data.toList.take pos++r:=by
 obtain⟨h1,h2⟩:=dec_high s pos h ha;have h3:=(decode_high s pos h ha).2;(have hl:s.data.toList.length=s.size:=by simp);refine⟨(s.data.toList.drop pos).take (Utf8.decode s pos).2,?_,?_,?_⟩
 · intro e
   have:=congrArg List.length e;simp only[List.length_take,List.length_drop,hl,List.length_nil]at this;omega
 · intro c hc
   obtain⟨j,hj,rfl⟩:=List.mem_iff_getElem.1 hc;simp only[List.length_take,List.length_drop,hl]at hj;have:=h2 j (by omega);rw[get_list s (pos+j) (by rw[hl];omega)]at this;simpa using this
 · rw[List.take_add]
end Go.Proofs.YtkoaicabkgaglaaGreatDoor
namespace Go.Proofs.YtkoaicabkgaglaaGreatDoor
open Go.RowKit Go.Shelf
theorem validRune_any (r:Int)(w:World)(h0:128≤r):Calls Tryz.prog 110 #[.int .i32 r] w fun e w'=>e = .returned (.bool (Utf8.valid r))∧w=w':=by
 have hv:Utf8.valid r=decide (r<55296∨(57343<r∧r≤1114111)):=by
  rw[validRune_eq];unfold validRune;rw[decide_eq_decide];omega
 have HV:=Lib.hid hv;clear hv;(have h1:(0:Int)≤r:=by omega);by_cases ha:r<55296
 · have H:Hid (decide (r<55296∨(57343<r∧r≤1114111))=true):=Lib.hid (by simp[ha])
   go_enter Tryz.func110,Tryz.ntmps110;go_wp2_with fail;go_ret;exact⟨ret_bool (by rw[HV.out,H.out]),rfl⟩
 · by_cases hb:57343<r
   · by_cases hc:r≤1114111
     · have H:Hid (decide (r<55296∨(57343<r∧r≤1114111))=true):=Lib.hid (by simp[hb,hc])
       go_enter Tryz.func110,Tryz.ntmps110;go_wp2_with fail;go_ret;exact⟨ret_bool (by rw[HV.out,H.out]),rfl⟩
     · have H:Hid (decide (r<55296∨(57343<r∧r≤1114111))=false):=Lib.hid (by simp;omega)
       go_enter Tryz.func110,Tryz.ntmps110;go_wp2_with fail;go_ret;exact⟨ret_bool (by rw[HV.out,H.out]),rfl⟩
   · have H:Hid (decide (r<55296∨(57343<r∧r≤1114111))=false):=Lib.hid (by simp;omega)
     go_enter Tryz.func110,Tryz.ntmps110;go_wp2_with fail;go_ret;exact⟨ret_bool (by rw[HV.out,H.out]),rfl⟩
theorem below_iter (w:World)(s:ByteArray)(p:Nat):Below w.heap.size w (w.iter s p):=(Below.refl _ w).alloc (Nat.le_refl _) _
set_option maxRecDepth 100000 in
set_option maxHeartbeats 1000000 in
theorem indexRune_err (s:ByteArray)(ha : ∀j (h:j<s.size),(s[j]'h).toNat<128)(w:World) :
 Calls Tryz.prog 84 #[.string s, .int .i32 65533] w fun e w'=>e = .returned (.int .i64 (-1))∧Below w.heap.size w w':=by
 have HA:=Lib.hid ha;clear ha;go_enter Tryz.func84,Tryz.ntmps84;go_wp2_with fail;go_loopw [] (fun W=>∃pos:Nat,W=w.iter s pos∧pos≤s.size) (fun W=>s.size-W.iterPos w.heap.size)
 case atStart=>exact⟨0,rfl,Nat.zero_le _⟩
 case round =>
  obtain⟨pos,rfl,hle⟩:=hrel;by_cases hp:pos<s.size
  · have ha:=HA.out pos hp
    (have hnx : ∀ty,(Instr.next (.pointer (some ⟨w.heap.size,0,none⟩)) true ty).run Tryz.prog (w.iter s pos)=_:=fun ty=>run_next_ascii w s pos ty hp ha);(have hI:(((s[pos]'hp).toNat:Int) == 65533)=false:=by rw[beq_eq_false_iff_ne];omega);go_wp2_with fail;go_roundw
    case rel=>exact⟨pos+1,rfl,by omega⟩
    case measure=>simp;omega
  · obtain rfl:pos=s.size:=by omega
    (have hnx : ∀ty,(Instr.next (.pointer (some ⟨w.heap.size,0,none⟩)) true ty).run Tryz.prog (w.iter s s.size)=_:=fun ty=>run_next_end w s s.size ty hp);go_wp2_with fail;go_ret;exact⟨rfl,below_iter _ _ _⟩
set_option maxRecDepth 100000 in
set_option maxHeartbeats 1000000 in
theorem indexRune_far (s:ByteArray)(hs:s.size=2)(ha : ∀j (h:j<s.size),(s[j]'h).toNat<128)(r:Int)(h0:128≤r)(hne:r≠65533)(w:World) :
 Calls Tryz.prog 84 #[.string s, .int .i32 r] w fun e w'=>e = .returned (.int .i64 (-1))∧Below w.heap.size w w':=by
 (have hI:(r == 65533)=false:=by rw[beq_eq_false_iff_ne];exact hne);(have hlt:decide (r<128)=false:=by simp;omega);(have h00:(0:Int)≤r:=by omega);by_cases hv:Utf8.valid r=true
 · obtain⟨e1,e2,e3⟩:=encode_facts r hv h0
   have HV:=Lib.hid hv;rcases(by omega:(Utf8.encode r).size=2∨(Utf8.encode r).size=3∨(Utf8.encode r).size=4)with hp | hp | hp
   · obtain⟨x,hx,hx2⟩ : ∃x:UInt8,(∀h:1<(Utf8.encode r).size,(Utf8.encode r)[1]'h=x)∧128≤x.toNat:=by
      have e4:=e3 (by omega);(have:(Utf8.encode r).size-1=1:=by omega);simp only[this]at e4;exact⟨(Utf8.encode r)[1]'(by omega),fun _=>rfl,e4⟩
     obtain⟨y,hy,hy2⟩ : ∃y:UInt8,(∀h:1<s.size,s[1]'h=y)∧y.toNat<128:=⟨s[1]'(by omega),fun _=>rfl,ha 1 (by omega)⟩;have hq:((y.toNat:Int) == (x.toNat:Int))=false:=by rw[beq_eq_false_iff_ne];omega
     have hib : ∀w,Calls Tryz.prog 109 #[.string ByteArray.empty, .int .u8 x.toNat] w fun e w'=>e = .returned (.int .i64 (-1))∧w'=w:=fun w =>
      (Tryz.strings_IndexByte ByteArray.empty (x.toNat:Int) w).mono fun e w' h=>⟨by rw[h.1];rfl,h.2⟩
     clear ha hne hv e1 e2 e3 hx2 hy2;go_enter Tryz.func84,Tryz.ntmps84;go_wp2_with fail;refine(validRune_any r _ h0).mono ?_;rintro e w1 ⟨rfl,rfl⟩;rw[HV.out];go_wp2_with fail;go_step3;go_wp2_with fail;go_loop [9,10] (fun i f=>i = .int .i64 1∧f = .int .i64 0) (fun _ _=>0)
     case atStart=>exact⟨rfl,rfl⟩
     case round =>
      obtain⟨rfl,rfl⟩:=hrel;go_wp2_with fail;go_step3;go_wp2_with fail;go_quiet (fail);have hw2:IntKind.i64.wrap 2=2:=rfl;go_wp2_with fail;go_quiet ((go_at_call 109;exact(hib _).mono fun e w' h=>⟨h.1,_,h.2⟩));go_wp2_with fail;simp(zetaDelta:=true) only[go_sem];go_ret;exact⟨rfl,below_drewN (Below.refl _ _) _⟩
   · clear ha hne hv e1 e2 e3
     go_enter Tryz.func84,Tryz.ntmps84;go_wp2_with fail;refine(validRune_any r _ h0).mono ?_;rintro e w1 ⟨rfl,rfl⟩;rw[HV.out];go_wp2_with fail;go_step3;go_wp2_with fail;go_loop [9,10] (fun i f=>i = .int .i64 2∧f = .int .i64 0) (fun _ _=>0)
     case atStart=>exact⟨rfl,rfl⟩
     case round =>
      obtain⟨rfl,rfl⟩:=hrel;go_wp2_with fail;go_ret;exact⟨rfl,Below.refl _ _⟩
   · clear ha hne hv e1 e2 e3
     go_enter Tryz.func84,Tryz.ntmps84;go_wp2_with fail;refine(validRune_any r _ h0).mono ?_;rintro e w1 ⟨rfl,rfl⟩;rw[HV.out];go_wp2_with fail;go_step3;go_wp2_with fail;go_loop [9,10] (fun i f=>i = .int .i64 3∧f = .int .i64 0) (fun _ _=>0)
     case atStart=>exact⟨rfl,rfl⟩
     case round =>
      obtain⟨rfl,rfl⟩:=hrel;go_wp2_with fail;go_ret;exact⟨rfl,Below.refl _ _⟩
 · have HV:=Lib.hid (show Utf8.valid r=false by simpa using hv)
   clear ha hne hv;go_enter Tryz.func84,Tryz.ntmps84;go_wp2_with fail;refine(validRune_any r _ h0).mono ?_;rintro e w1 ⟨rfl,rfl⟩;rw[HV.out];go_wp2_with fail;go_ret;exact⟨rfl,Below.refl _ _⟩
end Go.Proofs.YtkoaicabkgaglaaGreatDoor
namespace Go.Proofs.YtkoaicabkgaglaaGreatDoor
open Go.RowKit Go.Shelf
abbrev barS:ByteArray:=⟨#[47,0]⟩
theorem barS_plain : ∀j (h:j<barS.size),(barS[j]'h).toNat<128:=by
 intro j h;(have hj:j=0∨j=1:=by have:barS.size=2:=rfl;omega);rcases hj with rfl | rfl
 · show(47:UInt8).toNat<128;decide
 · show(0:UInt8).toNat<128;decide
def barAt (r:Nat):Int:=if r=47 then 0 else if r=0 then 1 else -1
theorem barAt_byte (c:UInt8):Lib.indexByte barS.data.toList ((c.toNat:Int).toNat.toUInt8)=barAt c.toNat:=by
 (have h:(c.toNat:Int).toNat.toUInt8=c:=by simp);rw[h];show(if(47:UInt8) == c then(0:Int)else if(if(0:UInt8) == c then(0:Int)else if(-1:Int) == -1 then -1 else -1+1) == -1 then -1 else(if(0:UInt8) == c then(0:Int)else if(-1:Int) == -1 then -1 else -1+1)+1)=_;unfold barAt;by_cases h1:c=47
 · subst h1;rfl
 · by_cases h0:c=0
   · subst h0;rfl
   · have e1:((47:UInt8) == c)=false:=by rw[beq_eq_false_iff_ne];exact fun e=>h1 e.symm
     (have e0:((0:UInt8) == c)=false:=by rw[beq_eq_false_iff_ne];exact fun e=>h0 e.symm);(have n1:c.toNat≠47:=fun e=>h1 (UInt8.toNat_inj.1 e));(have n0:c.toNat≠0:=fun e=>h0 (UInt8.toNat_inj.1 e));simp[e1,e0,n1,n0]
theorem indexRune_any (r:Nat)(w:World):Calls Tryz.prog 84 #[.string barS, .int .i32 r] w fun e w'=>e = .returned (.int .i64 (barAt r))∧Below w.heap.size w w':=by
 rcases Nat.lt_or_ge r 128 with h | h
 · obtain⟨c,hc⟩ : ∃c:UInt8,c.toNat=r:=⟨UInt8.ofNat r,by simp;omega⟩
   subst hc;refine(Tryz.strings_IndexRune_ascii barS (c.toNat:Int) w (by omega) (by omega)).mono ?_;rintro e w' ⟨rfl,rfl⟩;exact⟨ret_int (barAt_byte c),Below.refl _ _⟩
 · have hb:barAt r = -1:=by unfold barAt;rw[if_neg (by omega),if_neg (by omega)]
   rw[hb];by_cases he:r=65533
   · subst he
     exact indexRune_err barS barS_plain w
   · exact indexRune_far barS rfl barS_plain (r:Int) (by omega) (by omega) w
theorem barred_nat (c:UInt8):barredL c=true↔c.toNat=47∨c.toNat=0:=by
 unfold barredL;rw[Bool.or_eq_true,beq_iff_eq,beq_iff_eq];constructor
 · rintro(rfl | rfl)
   · exact .inl rfl
   · exact .inr rfl
 · rintro(h | h)
   · exact .inl (UInt8.toNat_inj.1 h)
   · exact .inr (UInt8.toNat_inj.1 h)
theorem take_one (s:ByteArray)(pos:Nat)(h:pos<s.size):s.data.toList.take (pos+1)=s.data.toList.take pos++ [s[pos]'h]:=by
 rw[List.take_succ_eq_append_getElem (by rw[data_len];exact h)];rfl
theorem dec_bar (s:ByteArray)(pos:Nat)(h:pos<s.size)(hn:(s.data.toList.take pos).any barredL=false) :
 (barAt (Utf8.decode s pos).1 = -1∧(s.data.toList.take (pos+(Utf8.decode s pos).2)).any barredL=false∧pos+(Utf8.decode s pos).2≤s.size∧1≤(Utf8.decode s pos).2) ∨
 (0≤barAt (Utf8.decode s pos).1∧s.data.toList.any barredL=true):=by
  rcases Nat.lt_or_ge (s[pos]'h).toNat 128 with ha | ha
  · rw[dec_low s pos h ha]
    dsimp only;by_cases hb:barredL (s[pos]'h)=true
    · refine .inr ⟨?_,List.any_eq_true.2 ⟨s[pos]'h,by exact Array.getElem_mem_toList (xs:=s.data) h,hb⟩⟩
      unfold barAt;rcases(barred_nat _).1 hb with e | e
      · rw[if_pos e];exact Int.le_refl _
      · rw[if_neg (by omega),if_pos e];decide
    · have hb':barredL (s[pos]'h)=false:=by simpa using hb
      refine .inl ⟨?_,by rw[take_one s pos h,List.any_append,hn];simp[hb'],by omega,Nat.le_refl _⟩;(have hx: ¬((s[pos]'h).toNat=47∨(s[pos]'h).toNat=0):=fun e=>hb ((barred_nat _).2 e));unfold barAt;rw[if_neg (fun e=>hx (.inl e)),if_neg (fun e=>hx (.inr e))]
  · obtain⟨h1,h2⟩:=decode_high s pos h ha
    have h3:=(dec_high s pos h ha).1;obtain⟨r,_,r2,r3⟩:=dec_list s pos h ha;refine .inl ⟨by unfold barAt;rw[if_neg (by omega),if_neg (by omega)],?_,h3,h2⟩;rw[r3,List.any_append,hn,Bool.false_or,List.any_eq_false];intro c hc hx;have:=r2 c hc;rcases(barred_nat c).1 hx with e | e<;>omega
theorem iter_below {w w':World}{k:Nat}{s:ByteArray}{pos:Nat}(h:w.heap[k]? = some (.stringIter s pos))(hb:Below w.heap.size w w'):w'.heap[k]? = some (.stringIter s pos) :=
 (hb.block k (Array.getElem?_eq_some_iff.1 h).1).trans h
def AnyIs (l:List UInt8)(e:Ending)(w w':World):Prop:=∃k:Int,e = .returned (.int .i64 k)∧decide (0≤k)=l.any barredL∧Below w.heap.size w w'
set_option maxRecDepth 100000 in
set_option maxHeartbeats 2000000 in
theorem indexAny_short (s:ByteArray)(h8:s.size≤8)(w:World):Calls Tryz.prog 79 #[.string s, .string barS] w fun e w'=>AnyIs s.data.toList e w w':=by
 have h8z:decide ((8:Int)<(s.size:Int))=false:=decide_eq_false (by omega);go_enter Tryz.func79,Tryz.ntmps79;go_wp2_with fail;refine(Tryz.strings_shouldUseASCIISet _ _).mono ?_;rintro e w1 ⟨rfl,rfl⟩;rw[h8z];go_wp2_with fail;go_loopw [9,10] (fun _ _ wr=>∃pos:Nat,pos≤s.size∧(s.data.toList.take pos).any barredL=false∧wr.heap[w1.heap.size]? = some (.stringIter s pos)∧Below w1.heap.size w1 wr) (fun _ _ wr=>s.size-wr.iterPos w1.heap.size)
 case atStart=>exact⟨0,Nat.zero_le _,rfl,World.iter_heap w1 _ 0,below_iter _ _ _⟩
 case round =>
  obtain⟨pos,hle,hal,hit,hbw⟩:=hrel;have HA:=Lib.hid hal;clear hal;have hsz:w1.heap.size<wr.heap.size:=(Array.getElem?_eq_some_iff.1 hit).1;by_cases hp:pos<s.size
  · have hnx : ∀ty,(Instr.next (.pointer (some ⟨w1.heap.size,0,none⟩)) true ty).run Tryz.prog wr=_:=fun ty=>Lib.run_next_any_at wr w1.heap.size s pos ty hit hp
    have hit2:=Lib.iterAt_heap wr w1.heap.size s pos (pos+(Utf8.decode s pos).2) hit;have hbw2:=Lib.below_iterAt hbw (k:=w1.heap.size) (by omega) s (pos+(Utf8.decode s pos).2);(have hsz2:w1.heap.size<(wr.iterAt w1.heap.size s (pos+(Utf8.decode s pos).2)).heap.size:=by rw[Lib.iterAt_size];omega);have hdb:=dec_bar s pos hp HA.out;generalize wr.iterAt w1.heap.size s (pos+(Utf8.decode s pos).2)=W3 at *;generalize (Utf8.decode s pos).1=r at *;generalize (Utf8.decode s pos).2=m at *;rcases hdb with⟨d1,d2,d3,d4⟩ | ⟨d1,d2⟩
    · have D2:=Lib.hid d2
      clear d2;go_wp2_with fail;refine(indexRune_any r _).mono ?_;rintro e W4 ⟨rfl,hb4⟩;rw[d1];have hit4:=iter_below hit2 hb4;go_wp2_with fail;go_roundw
      case rel=>exact⟨pos+m,d3,D2.out,hit4,hbw2.trans (hb4.mono (by omega))⟩
      case measure =>
       simp only[World.iterPos,hit4,hit];omega
    · have D2:=Lib.hid d2
      clear d2;go_wp2_with fail;refine(indexRune_any r _).mono ?_;rintro e W4 ⟨rfl,hb4⟩;generalize barAt r=k at *;go_wp2_with fail;go_ret;exact⟨pos,rfl,by rw[D2.out];simp,hbw2.trans (hb4.mono (by omega))⟩
  · have hnx : ∀ty,(Instr.next (.pointer (some ⟨w1.heap.size,0,none⟩)) true ty).run Tryz.prog wr=_:=fun ty=>Lib.run_next_end_at wr w1.heap.size s pos ty hit hp
    have HN:Hid (s.data.toList.any barredL=false):=Lib.hid (by
     have:=HA.out;rwa [List.take_of_length_le (by rw[data_len];omega)]at this)
    go_wp2_with fail;go_ret;exact⟨-1,rfl,by rw[HN.out];rfl,hbw⟩
theorem set_info:(Tryz.prog.info? 160).map (fun i=>(i.zero,i.size))=some (some (.agg (Array.replicate 256 (.bool false))),256):=by kernel_rfl
theorem bar_in (c:UInt8):barS.data.toList.contains c=barredL c:=by
 show List.contains [47,0] c=_;unfold barredL;rw[Bool.eq_iff_iff];simp
set_option maxRecDepth 1000000 in
set_option maxHeartbeats 8000000 in
theorem indexAny_long (s:ByteArray)(h8:8<s.size)(hm:s.size≤maxLen)(w:World):Calls Tryz.prog 79 #[.string s, .string barS] w fun e w'=>AnyIs s.data.toList e w w':=by
 unfold maxLen at hm;obtain⟨S,hS⟩ : ∃S,S=Lib.setCells barS.data.toList:=⟨_,rfl⟩
 have hM:=Tryz.strings_makeASCIISet (zero_of_info set_info).1 barS w (by decide) (fun j b h=>by
  (have hj:j<barS.size:=by have:=(List.getElem?_eq_some_iff.1 h).1;rwa [data_len]at this);have:=barS_plain j hj;rw[Lib.data_getElem? barS j hj]at h
  rwa [Option.some.inj h]at this)
 rw[←hS]at hM;(have hsz:S.size=256:=by rw[hS];exact Lib.setCells_size _);(have hone:S.all (·.oneCell')=true:=by rw[hS];exact Lib.setCells_one _);(have hat : ∀x:UInt8,S[x.toNat]? = some (.bool (barredL x)):=fun x=>by rw[hS,Lib.setCells_at,bar_in]);clear hS;have h8z:decide ((8:Int)<(s.size:Int))=true:=decide_eq_true (by omega)
 have hsc:(storeCells ⟨w.heap.size+1,0,none⟩ S.toList 0).run Tryz.prog ((w.alloc (.cells S 160)).alloc (.cells (Array.replicate 256 (.bool false)) 160)) = .ok () ((w.alloc (.cells S 160)).alloc (.cells S 160)):=by
  have:=run_storeCells_new (P:=Tryz.prog) (w.alloc (.cells S 160)) 160 (Array.replicate 256 (.bool false)) S (by rw[hsz];exact(zero_of_info set_info).2) (by rw[hsz,Array.size_replicate]) hone;simpa using this
 have HC:Hid (∀x:UInt8,((w.alloc (.cells S 160)).alloc (.cells S 160)).cell? ⟨w.heap.size+1,x.toNat,none⟩=some (.bool (barredL x))):=Lib.hid fun x=>by
  rw[World.cell?_alloc_at _ _ _ _ (by simp),hat]
 have hB:Below w.heap.size w ((w.alloc (.cells S 160)).alloc (.cells S 160)):=((Below.refl _ _).alloc (Nat.le_refl _) _).alloc (by simp) _;have HB:=Lib.hid hB;clear hat hone hB;go_enter Tryz.func79,Tryz.ntmps79;go_wp2_with fail;refine(Tryz.strings_shouldUseASCIISet _ _).mono ?_;rintro e w1 ⟨rfl,rfl⟩;rw[h8z];go_wp2_with fail;refine hM.mono ?_;rintro e w2 ⟨rfl,rfl⟩;have hv:=(zero_of_info set_info).1;go_wp2_with fail;clear hM hsc hv hsz;generalize (w1.alloc (.cells S 160)).alloc (.cells S 160)=W0 at *;go_loop [8] (fun i=>∃k:Nat,i = .int .i64 k∧k≤s.size∧Hid ((s.data.toList.take k).any barredL=false)) (fun i=>s.size-(intOf i).toNat)
 case atStart=>exact⟨0,rfl,Nat.zero_le _,Lib.hid rfl⟩
 case round =>
  obtain⟨k,rfl,hk,hal⟩:=hrel;by_cases hlt:k<s.size
  · have ht:=take_one s k hlt
    obtain⟨x,hx⟩ : ∃x:UInt8,∀h,s[k]'h=x:=⟨s[k]'hlt,fun _=>rfl⟩;rw[hx hlt]at ht;have hcx:=HC.out x;have hm1:x∈s.data.toList:=by rw[←hx hlt];exact Array.getElem_mem_toList (xs:=s.data) hlt
    cases hb:barredL x
    · rw[hb]at hcx
      have HN:Hid ((s.data.toList.take (k+1)).any barredL=false):=Lib.hid (by rw[ht,List.any_append,hal.out];simp[hb]);clear ht hm1;go_wp2_with fail;refine(Tryz.asciiSet_contains _ x _ _ hcx).mono ?_;rintro e w3 ⟨rfl,rfl⟩;go_wp2_with fail;go_round
      case rel=>exact⟨k+1,by go_num,hlt,HN⟩
      case measure=>simp[intOf];omega
    · rw[hb]at hcx
      have HN:Hid (s.data.toList.any barredL=true):=Lib.hid (List.any_eq_true.2 ⟨x,hm1,hb⟩);clear ht hm1;go_wp2_with fail;refine(Tryz.asciiSet_contains _ x _ _ hcx).mono ?_;rintro e w3 ⟨rfl,rfl⟩;go_wp2_with fail;go_ret;exact⟨k,rfl,by rw[HN.out];simp,HB.out⟩
  · have hke:k=s.size:=by omega
    have HN:Hid (s.data.toList.any barredL=false):=Lib.hid (by
     have:=hal.out;rwa [List.take_of_length_le (by rw[data_len];omega)]at this)
    (have hI2:decide (k<s.size)=false:=by simp;omega);clear hke hlt;go_wp2_with fail;go_ret;exact⟨-1,rfl,by rw[HN.out];rfl,HB.out⟩
theorem indexAny_any (s:ByteArray)(hm:s.size≤maxLen)(w:World):Calls Tryz.prog 79 #[.string s, .string barS] w fun e w'=>AnyIs s.data.toList e w w':=by
 rcases Nat.lt_or_ge 8 s.size with h | h
 · exact indexAny_long s h hm w
 · exact indexAny_short s h w
theorem containsAny_any (s:ByteArray)(hm:s.size≤maxLen)(w:World):Calls Tryz.prog 71 #[.string s, .string barS] w fun e w'=>e = .returned (.bool (s.data.toList.any barredL))∧Below w.heap.size w w':=by
 go_enter Tryz.func71,Tryz.ntmps71;go_wp2_with fail;refine(indexAny_any s hm _).mono ?_;rintro e w1 ⟨k,rfl,hk,hb⟩;have HK:=Lib.hid hk;clear hk;go_wp2_with fail;go_ret;exact⟨ret_bool HK.out,hb⟩
end Go.Proofs.YtkoaicabkgaglaaGreatDoor
namespace Go.Proofs.YtkoaicabkgaglaaGreatDoor
open Go.RowKit Go.Shelf
theorem legal_err {s:Nm}(h:s = []∨s = [46]∨s = [46,46]∨s.any barredL=true):legalL s=1:=if_pos h
theorem legal_long {s:Nm}(h: ¬(s = []∨s = [46]∨s = [46,46]∨s.any barredL=true))(hl:12<s.length):legalL s=9:=by unfold legalL;rw[if_neg h,if_pos hl]
theorem legal_ok {s:Nm}(h: ¬(s = []∨s = [46]∨s = [46,46]∨s.any barredL=true))(hl: ¬12<s.length):legalL s=0:=by unfold legalL;rw[if_neg h,if_neg hl]
theorem empty_false {s:Nm}(h:s≠ []):s.isEmpty=false:=by cases s with | nil=>exact absurd rfl h | cons a l=>rfl
theorem beq_list_false {a b:Nm}(h:a≠b):(a == b)=false:=by rw[beq_eq_false_iff_ne];exact h
set_option maxRecDepth 100000 in
set_option maxHeartbeats 1000000 in
theorem legal_any (s:Nm)(hm:s.length≤maxLen)(w:World):Calls Tryz.prog 61 #[.string (bs s)] w fun e w'=>e = .returned (.int .i64 (legalL s))∧Below w.heap.size w w':=by
 by_cases h0:s = []
 · subst h0
   go_enter Tryz.func61,Tryz.ntmps61;go_wp2_with fail;go_ret;exact⟨ret_int rfl,Below.refl _ _⟩
 by_cases h1:s = [46]
 · subst h1
   go_enter Tryz.func61,Tryz.ntmps61;go_wp2_with fail;go_ret;exact⟨ret_int rfl,Below.refl _ _⟩
 by_cases h2:s = [46,46]
 · subst h2
   go_enter Tryz.func61,Tryz.ntmps61;go_wp2_with fail;go_ret;exact⟨ret_int rfl,Below.refl _ _⟩
 have e0:=empty_false h0;have e1:=beq_list_false h1;have e2:=beq_list_false h2;(have hc:=fun w=>containsAny_any (bs s) (by rw[bs_size];exact hm) w);rw[bs_list]at hc;by_cases hb:s.any barredL=true
 · have H:Hid (legalL s=1):=Lib.hid (legal_err (.inr (.inr (.inr hb))))
   rw[hb]at hc;clear h0 h1 h2 hb hm;go_enter Tryz.func61,Tryz.ntmps61;go_wp2_with fail;refine(hc _).mono ?_;rintro e w1 ⟨rfl,hb1⟩;go_wp2_with fail;go_ret;exact⟨ret_int H.out.symm,hb1⟩
 · have hn: ¬(s = []∨s = [46]∨s = [46,46]∨s.any barredL=true):=by
    rintro(h | h | h | h)
    · exact h0 h
    · exact h1 h
    · exact h2 h
    · exact hb h
   rw[show s.any barredL=false by simpa using hb]at hc;by_cases hl:12<s.length
   · have H:Hid (legalL s=9):=Lib.hid (legal_long hn hl)
     (have hI:decide ((12:Int)<(s.length:Int))=true:=by simp;omega);clear h0 h1 h2 hb hm hn hl;go_enter Tryz.func61,Tryz.ntmps61;go_wp2_with fail;refine(hc _).mono ?_;rintro e w1 ⟨rfl,hb1⟩;go_wp2_with fail;go_ret;exact⟨ret_int H.out.symm,hb1⟩
   · have H:Hid (legalL s=0):=Lib.hid (legal_ok hn hl)
     (have hI:decide ((12:Int)<(s.length:Int))=false:=by simp;omega);clear h0 h1 h2 hb hm hn hl;go_enter Tryz.func61,Tryz.ntmps61;go_wp2_with fail;refine(hc _).mono ?_;rintro e w1 ⟨rfl,hb1⟩;go_wp2_with fail;go_ret;exact⟨ret_int H.out.symm,hb1⟩
theorem any_take8 (s:Nm)(p:UInt8→Bool)(k:Nat)(h:k<s.length):(s.take (k+1)).any p=((s.take k).any p || p s[k]):=by
 rw[List.take_succ_eq_append_getElem h,List.any_append];simp
set_option maxRecDepth 100000 in
set_option maxHeartbeats 1000000 in
theorem rlegal_any (s:Nm)(hm:s.length≤maxLen)(w:World):Calls Tryz.prog 83 #[.string (bs s)] w fun e w'=>e = .returned (.int .i64 (legalL s))∧w=w':=by
 unfold maxLen at hm;by_cases h0:s = []
 · subst h0
   go_enter Tryz.func83,Tryz.ntmps83;go_wp2_with fail;go_ret;exact⟨ret_int rfl,rfl⟩
 by_cases h1:s = [46]
 · subst h1
   go_enter Tryz.func83,Tryz.ntmps83;go_wp2_with fail;go_ret;exact⟨ret_int rfl,rfl⟩
 by_cases h2:s = [46,46]
 · subst h2
   go_enter Tryz.func83,Tryz.ntmps83;go_wp2_with fail;go_ret;exact⟨ret_int rfl,rfl⟩
 have e0:=empty_false h0;have e1:=beq_list_false h1;have e2:=beq_list_false h2
 have HN:Hid (s.any barredL=false→¬(s = []∨s = [46]∨s = [46,46]∨s.any barredL=true)):=Lib.hid fun hb=>by
  rintro(h | h | h | h)
  · exact h0 h
  · exact h1 h
  · exact h2 h
  · rw[hb]at h;cases h
 clear h0 h1 h2;go_enter Tryz.func83,Tryz.ntmps83;go_wp2_with fail;clear e0 e1 e2;go_loop [3] (fun i=>∃k:Nat,i = .int .i64 k∧k≤s.length∧Hid ((s.take k).any barredL=false)) (fun i=>s.length-(intOf i).toNat)
 case atStart=>exact⟨0,rfl,Nat.zero_le _,Lib.hid rfl⟩
 case round =>
  obtain⟨k,rfl,hk,hal⟩:=hrel;by_cases hlt:k<s.length
  · have ht:=any_take8 s barredL k hlt
    have hm1:s[k]∈s:=List.getElem_mem hlt;obtain⟨x,hx⟩ : ∃x:UInt8,x=s[k]:=⟨s[k],rfl⟩;(have hg : ∀h,(bs s)[k]'h=x:=fun h=>by rw[hx];exact bs_get s k h);rw[←hx]at ht hm1;clear hx;by_cases hq:x=47
    · have hI:((x.toNat:Int) == 47)=true:=by rw[hq];rfl
      have H:Hid (legalL s=1):=Lib.hid (legal_err (.inr (.inr (.inr (List.any_eq_true.2 ⟨x,hm1,by rw[hq];rfl⟩)))));clear ht hm1 hq;go_wp2_with fail;go_ret;exact⟨ret_int H.out.symm,rfl⟩
    · have hI:((x.toNat:Int) == 47)=false:=by
       rw[beq_eq_false_iff_ne];exact fun e=>hq (UInt8.toNat_inj.1 (by simp;omega))
      by_cases hz:x=0
      · have hJ:((x.toNat:Int) == 0)=true:=by rw[hz];rfl
        have H:Hid (legalL s=1):=Lib.hid (legal_err (.inr (.inr (.inr (List.any_eq_true.2 ⟨x,hm1,by rw[hz];rfl⟩)))));clear ht hm1 hq hz;go_wp2_with fail;go_ret;exact⟨ret_int H.out.symm,rfl⟩
      · have hJ:((x.toNat:Int) == 0)=false:=by
         rw[beq_eq_false_iff_ne];exact fun e=>hz (UInt8.toNat_inj.1 (by simp;omega))
        have HB:Hid ((s.take (k+1)).any barredL=false):=Lib.hid (by
         rw[ht,hal.out]
         simp[barredL,hq,hz])
        clear ht hm1 hq hz;go_wp2_with fail;go_round
        case rel=>exact⟨k+1,by go_num,hlt,HB⟩
        case measure=>simp[intOf];omega
  · have hke:k=s.length:=by omega
    have HB:=HN.out (by have:=hal.out;rwa [hke,List.take_length]at this);(have hI2:decide (k<s.length)=false:=by simp;omega);by_cases hl:12<s.length
    · have H:Hid (legalL s=9):=Lib.hid (legal_long HB hl)
      (have hI:decide ((12:Int)<(s.length:Int))=true:=by simp;omega);clear hke hlt hl HB;go_wp2_with fail;go_ret;exact⟨ret_int H.out.symm,rfl⟩
    · have H:Hid (legalL s=0):=Lib.hid (legal_ok HB hl)
      (have hI:decide ((12:Int)<(s.length:Int))=false:=by simp;omega);clear hke hlt hl HB;go_wp2_with fail;go_ret;exact⟨ret_int H.out.symm,rfl⟩
end Go.Proofs.YtkoaicabkgaglaaGreatDoor
namespace Go.Proofs.YtkoaicabkgaglaaGreatDoor
open Go.RowKit Go.Shelf
attribute [local go_sem ↓] Go.wp_at_zero Go.wp_at_succ
def ents (l:List EntL):List Value:=l.flatMap fun e=> [.string (bs e.1), .int .i64 e.2]
theorem ents_app (a b:List EntL):ents (a++b)=ents a++ents b:=by simp[ents]
theorem ents_at0 (l:List EntL)(k:Nat)(h:k<l.length):(ents l)[k*2]? = some (.string (bs (l[k]).1)):=by
 induction l generalizing k with
 | nil=>simp at h
 | cons f l ih =>
    cases k with
    | zero=>rfl
    | succ k =>
       have:=ih k (by simpa using h);rw[show(k+1)*2=k*2+2 by omega];simpa[ents]using this
theorem ents_at1 (l:List EntL)(k:Nat)(h:k<l.length):(ents l)[k*2+1]? = some (.int .i64 (l[k]).2):=by
 induction l generalizing k with
 | nil=>simp at h
 | cons f l ih =>
    cases k with
    | zero=>rfl
    | succ k =>
       have:=ih k (by simpa using h);rw[show(k+1)*2+1=k*2+1+2 by omega];simpa[ents]using this
theorem ents_one (l:List EntL) : ∀u∈ents l,u.oneCell'=true:=by
 intro u hu;obtain⟨e,_,h⟩:=List.mem_flatMap.1 hu;simp only[List.mem_cons,List.not_mem_nil,or_false]at h;rcases h with rfl | rfl<;>rfl
def Fit (l:List EntL):Prop:=∀e∈l,e.1.length≤maxLen
theorem bless (a b:Nm):Op.bytesLess a b=decide (a<b):=by
 induction a generalizing b with
 | nil=>cases b<;>simp[Op.bytesLess]
 | cons x a ih =>
    cases b with
    | nil=>simp[Op.bytesLess]
    | cons y b =>
       rw[Op.bytesLess,ih,Bool.eq_iff_iff,decide_eq_true_iff,List.cons_lt_cons_iff];simp
theorem bless_yes {a b:Nm}(h:a<b):Op.bytesLess a b=true:=by rw[bless];simpa using h
theorem bless_no {a b:Nm}(h: ¬a<b):Op.bytesLess a b=false:=by rw[bless];simpa using h
theorem leq_ways {a b:Nm}(h: ¬b<a):(Op.bytesLess a b=true∧(a == b)=false)∨(Op.bytesLess a b=false∧(a == b)=true):=by
 by_cases e:a<b
 · exact .inl ⟨bless_yes e,beq_list_false (lt_ne e)⟩
 · refine .inr ⟨bless_no e,?_⟩
   rw[lt_eq e h];simp
def SortIs (l:List EntL)(e:Ending)(w w':World):Prop:=e = .returned (.bool (decide (SortedP l)))∧Below w.heap.size w w'
theorem not_legal {l:List EntL}{k:Nat}(h:k<l.length)(hl:legalL l[k].1≠0):decide (SortedP l)=false:=by
 rw[decide_eq_false_iff_not];exact fun hs=>hl (hs.1 _ (List.getElem_mem h))
theorem not_order {l:List EntL}{j:Nat}(h:j+1<l.length)(hl: ¬(l[j]'(by omega)).1<l[j+1].1):decide (SortedP l)=false:=by
 rw[decide_eq_false_iff_not];exact fun hs=>hl (sorted_order hs h rfl)
set_option maxRecDepth 100000 in
set_option maxHeartbeats 4000000 in
theorem sorted_any (B:Nat)(v:Value)(l:List EntL)(w:World)(hv:Rd B 2 v l.length (ents l) w)(hB:B≤w.heap.size)(hl:l.length≤10000)(hn:Fit l) :
 Calls Tryz.prog 34 #[v] w fun e w'=>SortIs l e w w':=by
 obtain⟨ao,cap,rfl,_,_⟩:=hv.form;have HV:=Lib.hid hv;have HN:=Lib.hid hn;clear hv hn;go_enter Tryz.func34,Tryz.ntmps34;go_wp2_with fail;go_loopw [7] (fun i wr=>∃k:Nat,i = .int .i64 k∧k≤l.length∧Hid (SortedP (l.take k))∧Below w.heap.size w wr) (fun i _=>l.length-(intOf i).toNat)
 case atStart=>exact⟨0,rfl,Nat.zero_le _,Lib.hid sorted_nil,Below.refl _ _⟩
 case round =>
  obtain⟨k,rfl,hk,hS,hBr⟩:=hrel;by_cases hlt:k<l.length
  · obtain⟨b,off,cap',e,hn,hm,hb,hlen,hc⟩:=HV.out.at (by omega)
    injection e with e1 _ e2;subst e1;subst e2;have hc0:=(hBr.cell (p:=⟨b,off+k*2,none⟩) (by show b<_;omega)).trans (hc _ _ (ents_at0 l k hlt));have hc1:wr.cell? ⟨b,off+k*2+1,none⟩=_:=(hBr.cell (p:=⟨b,off+k*2+1,none⟩) (by show b<_;omega)).trans (hc (k*2+1) _ (ents_at1 l k hlt));have hxm:=HN.out _ (List.getElem_mem hlt);have hbw:b<wr.heap.size:=by have:=hBr.size;omega
    have HC:Hid (∀j (hj:j<l.length),wr.cell? ⟨b,off+j*2,none⟩=some (.string (bs (l[j]).1))):=Lib.hid fun j hj =>
     (hBr.cell (p:=⟨b,off+j*2,none⟩) (by show b<_;omega)).trans (hc _ _ (ents_at0 l j hj))
    obtain⟨x,hx⟩ : ∃x,x=(l[k]).1:=⟨_,rfl⟩;obtain⟨z,hz⟩ : ∃z,z=(l[k]).2:=⟨_,rfl⟩;rw[←hx]at hc0 hxm;rw[←hz]at hc1;have HL:=legal_any x hxm;have HX:=Lib.hid hx;clear hc hz;by_cases hq:legalL x=0
    · rw[hq]at HL
      by_cases h0:k=0
      · have hnx:Hid (SortedP (l.take (k+1))):=Lib.hid (sorted_succ hlt hS.out (by rw[←HX.out];exact hq) fun j _ h=>by omega)
        (have hI:decide (0<k)=false:=by simp;omega);clear hx hq h0;go_wp2_with fail;have hba:Below wr.heap.size wr (wr.alloc (.cells #[.string (bs x), .int .i64 z] 123)):=(Below.refl _ wr).alloc (Nat.le_refl _) _;have hbF:=heap_alloc_new wr (.cells #[.string (bs x), .int .i64 z] 123);have hBa:=hBr.trans (hba.mono hBr.size);generalize hnf:wr.heap.size=nf at *;generalize wr.alloc (.cells #[.string (bs x), .int .i64 z] 123)=W1 at *;have cf0:=cell_regrown (show W1.cell? ⟨nf,0,none⟩=some (.string (bs x))by rw[Lib.cell_of_heap hbF];rfl);refine wp_region_quiet_below (by kernel_rfl) (by kernel_rfl) ?_
        repeat (go_big_quiet_step ((go_at_call 61;exact Calls.regrown_of (HL _))))
        refine wpQuiet_nil ?_;clear cf0;intro _ hw';obtain⟨⟨dq,osq⟩,hw''⟩:=hw';have hbg:Below W1.heap.size W1 _:=below_regrown W1 dq osq;rw[←hw'']at hbg;clear hw'';rename_i W2;have hB2:=hBa.trans (hbg.mono hBa.size);go_wp2_with fail;go_roundw
        case rel=>exact⟨k+1,by go_num,hlt,hnx,hB2⟩
        case measure=>simp[intOf];omega
      · obtain⟨j,hj⟩ : ∃j,k=j+1:=⟨k-1,by omega⟩
        (have hI:decide (0<k)=true:=by simp;omega);(have hk1:(k:Int)-1=(j:Int):=by omega);(have hjl:(j:Int)<(l.length:Int):=by omega);(have hj0:(0:Int)≤(j:Int):=by omega);have hcp:=HC.out j (by omega);obtain⟨y,hy⟩ : ∃y,y=(l[j]'(by omega)).1:=⟨_,rfl⟩;rw[←hy]at hcp;by_cases hord:y<x
        · have hJ:=bless_no (lt_as hord)
          have hJ2:=beq_list_false (lt_ne hord).symm
          have hnx:Hid (SortedP (l.take (k+1))):=Lib.hid (sorted_succ hlt hS.out (by rw[←HX.out];exact hq) fun j' hj' h=>by
           obtain rfl:j'=j:=by omega
           rw[←hy,←HX.out];exact hord)
          clear hx hq h0 hord hj hy;go_wp2_with fail;have hba:Below wr.heap.size wr (wr.alloc (.cells #[.string (bs x), .int .i64 z] 123)):=(Below.refl _ wr).alloc (Nat.le_refl _) _;have hbF:=heap_alloc_new wr (.cells #[.string (bs x), .int .i64 z] 123);have hBa:=hBr.trans (hba.mono hBr.size);have hcp1:(wr.alloc (.cells #[.string (bs x), .int .i64 z] 123)).cell? ⟨b,off+j*2,none⟩=some (.string (bs y)):=(hba.cell (p:=⟨b,off+j*2,none⟩) hbw).trans hcp;generalize hnf:wr.heap.size=nf at *;generalize wr.alloc (.cells #[.string (bs x), .int .i64 z] 123)=W1 at *;have cf0:=cell_regrown (show W1.cell? ⟨nf,0,none⟩=some (.string (bs x))by rw[Lib.cell_of_heap hbF];rfl);have cf1:=cell_regrown hcp1;refine wp_region_quiet_below (by kernel_rfl) (by kernel_rfl) ?_
          repeat (go_big_quiet_step ((go_at_call 61;exact Calls.regrown_of (HL _))))
          refine wpQuiet_nil ?_;clear cf0 cf1;intro _ hw';obtain⟨⟨dq,osq⟩,hw''⟩:=hw';have hbg:Below W1.heap.size W1 _:=below_regrown W1 dq osq;rw[←hw'']at hbg;clear hw'';rename_i W2;have hB2:=hBa.trans (hbg.mono hBa.size);go_wp2_with fail;go_roundw
          case rel=>exact⟨k+1,by go_num,hlt,hnx,hB2⟩
          case measure=>simp[intOf];omega
        · have HF:Hid (decide (SortedP l)=false):=Lib.hid (by
           subst hj
           exact not_order hlt (by rw[←hy,←HX.out];exact hord))
          have hlw:=leq_ways hord;clear hx hq h0 hord hj hy;rcases hlw with⟨hJ,hJ2⟩ | ⟨hJ,hJ2⟩
          all_goals (
           go_wp2_with fail;have hba:Below wr.heap.size wr (wr.alloc (.cells #[.string (bs x), .int .i64 z] 123)):=(Below.refl _ wr).alloc (Nat.le_refl _) _;have hbF:=heap_alloc_new wr (.cells #[.string (bs x), .int .i64 z] 123);have hBa:=hBr.trans (hba.mono hBr.size);have hcp1:(wr.alloc (.cells #[.string (bs x), .int .i64 z] 123)).cell? ⟨b,off+j*2,none⟩=some (.string (bs y)):=(hba.cell (p:=⟨b,off+j*2,none⟩) hbw).trans hcp;generalize hnf:wr.heap.size=nf at *;generalize wr.alloc (.cells #[.string (bs x), .int .i64 z] 123)=W1 at *;have cf0:=cell_regrown (show W1.cell? ⟨nf,0,none⟩=some (.string (bs x))by rw[Lib.cell_of_heap hbF];rfl);have cf1:=cell_regrown hcp1;refine wp_region_quiet_below (by kernel_rfl) (by kernel_rfl) ?_
           repeat (go_big_quiet_step ((go_at_call 61;exact Calls.regrown_of (HL _))))
           refine wpQuiet_nil ?_;clear cf0 cf1;intro _ hw';obtain⟨⟨dq,osq⟩,hw''⟩:=hw';have hbg:Below W1.heap.size W1 _:=below_regrown W1 dq osq;rw[←hw'']at hbg;clear hw'';rename_i W2;have hB2:=hBa.trans (hbg.mono hBa.size);go_wp2_with fail;go_ret
           exact⟨ret_bool HF.out.symm,hB2⟩)
    · have HF:Hid (decide (SortedP l)=false):=Lib.hid (not_legal hlt (by rw[←hx];exact hq))
      (have hI:(legalL x != 0)=true:=by rw[bne_iff_ne];exact hq);generalize legalL x=q at *;clear hx hq;go_wp2_with fail;have hba:Below wr.heap.size wr (wr.alloc (.cells #[.string (bs x), .int .i64 z] 123)):=(Below.refl _ wr).alloc (Nat.le_refl _) _;have hbF:=heap_alloc_new wr (.cells #[.string (bs x), .int .i64 z] 123);have hBa:=hBr.trans (hba.mono hBr.size);generalize hnf:wr.heap.size=nf at *;generalize wr.alloc (.cells #[.string (bs x), .int .i64 z] 123)=W1 at *;have cf0:=cell_regrown (show W1.cell? ⟨nf,0,none⟩=some (.string (bs x))by rw[Lib.cell_of_heap hbF];rfl);refine wp_region_quiet_below (by kernel_rfl) (by kernel_rfl) ?_
      repeat (go_big_quiet_step ((go_at_call 61;exact Calls.regrown_of (HL _))))
      refine wpQuiet_nil ?_;clear cf0;intro _ hw';obtain⟨⟨dq,osq⟩,hw''⟩:=hw';have hbg:Below W1.heap.size W1 _:=below_regrown W1 dq osq;rw[←hw'']at hbg;clear hw'';rename_i W2;have hB2:=hBa.trans (hbg.mono hBa.size);go_wp2_with fail;go_ret;exact⟨ret_bool HF.out.symm,hB2⟩
  · have hke:k=l.length:=by omega
    have HF:Hid (decide (SortedP l)=true):=Lib.hid (by have:=hS.out;rw[hke,List.take_length]at this;simpa using this);(have hI2:decide (k<l.length)=false:=by simp;omega);clear hke hlt;go_wp2_with fail;go_ret;exact⟨ret_bool HF.out.symm,hBr⟩
end Go.Proofs.YtkoaicabkgaglaaGreatDoor
namespace Go.Proofs.YtkoaicabkgaglaaGreatDoor
open Go.RowKit Go.Shelf
attribute [local go_sem ↓] Go.wp_at_zero Go.wp_at_succ
theorem infoREnt:(Tryz.prog.info? 146).map (fun i=>(i.zero,i.size,i.bytes))=some (some (.agg #[.string ⟨#[]⟩, .int .i64 0]),2,24):=by kernel_rfl
theorem eqEnt (x y:EntL)(w:World):(Op.equalIn 10000 146 (.agg #[.string (bs x.1), .int .i64 x.2]) (.agg #[.string (bs y.1), .int .i64 y.2])).run Tryz.prog w = .ok (decide (x=y)) w:=by
 have u3:=Tryz.underlying3;have u9:=Tryz.underlying9;have a3:=Tryz.isAgg3;have a9:=Tryz.isAgg9;(have hS:Tryz.prog.underlying 146=some (.struct (Tryz.prog.fieldsOf 146)):=by kernel_rfl);rw[show(10000:Nat)=9998+1+1 from rfl,run_equalIn_agg w (9998+1) 146 _ _ hS (by kernel_rfl)];simp only[Program.fieldsOf,Tryz.underlying146];go_simp;obtain⟨x1,x2⟩:=x;obtain⟨y1,y2⟩:=y;by_cases h1:x1=y1<;>by_cases h2:x2=y2<;>simp[h1,h2]
theorem entGuard:Tryz.prog.eqGuardType Tryz.prog.depth 146=false:=by kernel_rfl
def sameTo {α:Type} [DecidableEq α] (a b:List α)(k:Nat):Prop:=a.take k=b.take k
theorem sameTo_succ {α:Type} [DecidableEq α] {a b:List α}{k:Nat}(h:sameTo a b k)(ha:k<a.length)(hb:k<b.length)(e:a[k]=b[k]):sameTo a b (k+1):=by
 unfold sameTo at h ⊢;rw[List.take_succ_eq_append_getElem ha,List.take_succ_eq_append_getElem hb,h,e]
set_option maxRecDepth 100000 in
set_option maxHeartbeats 1000000 in
theorem same_any (B:Nat)(va vb:Value)(a b:List EntL)(w:World)(hva:Rd B 2 va a.length (ents a) w)(hvb:Rd B 2 vb b.length (ents b) w)(ha:a.length≤10000000)(hb:b.length≤10000000) :
 Calls Tryz.prog 82 #[va,vb] w fun e w'=>e = .returned (.bool (decide (a=b)))∧∃n,w'=w.drewN n:=by
 obtain⟨aoa,capa,rfl,_,_⟩:=hva.form;obtain⟨aob,capb,rfl,_,_⟩:=hvb.form;have HVA:=Lib.hid hva;have HVB:=Lib.hid hvb;clear hva hvb;by_cases hl:a.length=b.length
 · have hI:((a.length:Int) != (b.length:Int))=false:=by rw[hl];simp
   have HL:=Lib.hid hl;(have hle1:a.length≤b.length:=by omega);(have hle2:b.length≤a.length:=by omega);clear hl;go_enter Tryz.func82,Tryz.ntmps82;go_wp2_with fail;go_loopw [5] (fun i wr=>∃k n:Nat,i = .int .i64 k∧k≤a.length∧Hid (sameTo a b k)∧wr=w.drewN n) (fun i _=>a.length-(intOf i).toNat)
   case atStart=>exact⟨0,0,rfl,Nat.zero_le _,Lib.hid rfl,rfl⟩
   case round =>
    obtain⟨k,n,rfl,hk,hs,rfl⟩:=hrel;by_cases hlt:k<a.length
    · have hltb:k<b.length:=by omega
      obtain⟨ba,offa,capa',ea,_,_,_,_,hca⟩:=HVA.out.at (by omega);obtain⟨bb,offb,capb',eb,_,_,_,_,hcb⟩:=HVB.out.at (by omega);injection ea with ea1 _ ea2;injection eb with eb1 _ eb2;subst ea1 ea2 eb1 eb2;have hc0:=hca _ _ (ents_at0 a k hlt);have hc1:=hcb _ _ (ents_at0 b k hltb);have hc2:w.cell? ⟨ba,offa+k*2+1,none⟩=_:=hca (k*2+1) _ (ents_at1 a k hlt);have hc3:w.cell? ⟨bb,offb+k*2+1,none⟩=_:=hcb (k*2+1) _ (ents_at1 b k hltb);(have k0:(0:Int)≤(k:Int):=by omega);(have k1:(k:Int)<(a.length:Int):=by omega);(have k2:(k:Int)<(b.length:Int):=by omega);clear hca hcb;have heq:=eqEnt a[k] b[k];have hgd:=entGuard;by_cases hq:a[k]=b[k]
      · have hs':=Lib.hid (sameTo_succ hs.out hlt hltb hq)
        (have hI2:decide (a[k]=b[k])=true:=by simpa using hq);rw[hI2]at heq;clear hq hI2;go_wp2_with fail;go_quiet (fail);go_wp2_with fail;go_roundw
        case rel=>exact⟨k+1,n+nq,by go_num,hlt,hs',by first | rfl | exact drewN_two w n nq⟩
        case measure=>simp[intOf];omega
      · have H:Hid (decide (a=b)=false):=Lib.hid (by rw[decide_eq_false_iff_not];intro e;subst e;exact hq rfl)
        (have hI2:decide (a[k]=b[k])=false:=by simpa using hq);rw[hI2]at heq;clear hq hI2;go_wp2_with fail;go_quiet (fail);go_wp2_with fail;go_ret;exact⟨ret_bool H.out.symm,n+nq,by first | rfl | exact drewN_two w n nq⟩
    · have hke:k=a.length:=by omega
      have H:Hid (decide (a=b)=true):=Lib.hid (by
       rw[decide_eq_true_iff];have:=hs.out;unfold sameTo at this
       rwa [hke,List.take_length,HL.out,List.take_length]at this)
      (have hI2:decide (k<a.length)=false:=by simp;omega);clear hke hlt;go_wp2_with fail;go_ret;exact⟨ret_bool H.out.symm,n,rfl⟩
 · have hI:((a.length:Int) != (b.length:Int))=true:=by rw[bne_iff_ne];omega
   have H:Hid (decide (a=b)=false):=Lib.hid (by rw[decide_eq_false_iff_not];intro e;exact hl (by rw[e]));clear hl;go_enter Tryz.func82,Tryz.ntmps82;go_wp2_with fail;go_ret;exact⟨ret_bool H.out.symm,0,rfl⟩
set_option maxRecDepth 100000 in
set_option maxHeartbeats 2000000 in
theorem rsorted_any (B:Nat)(v:Value)(l:List EntL)(w:World)(hv:Rd B 2 v l.length (ents l) w)(hl:l.length≤10000)(hn:Fit l) :
 Calls Tryz.prog 76 #[v] w fun e w'=>e = .returned (.bool (decide (SortedP l)))∧∃n,w'=w.drewN n:=by
 obtain⟨ao,cap,rfl,_,_⟩:=hv.form;have HV:=Lib.hid hv;have HN:=Lib.hid hn;clear hv hn;go_enter Tryz.func76,Tryz.ntmps76;go_wp2_with fail;go_loopw [3] (fun i wr=>∃k n:Nat,i = .int .i64 k∧k≤l.length∧Hid (SortedP (l.take k))∧wr=w.drewN n) (fun i _=>l.length-(intOf i).toNat)
 case atStart=>exact⟨0,0,rfl,Nat.zero_le _,Lib.hid sorted_nil,rfl⟩
 case round =>
  obtain⟨k,n,rfl,hk,hS,rfl⟩:=hrel;by_cases hlt:k<l.length
  · obtain⟨b,off,cap',e,hn,hm,hb,hlen,hc⟩:=HV.out.at (by omega)
    injection e with e1 _ e2;subst e1;subst e2;have hc0:=hc _ _ (ents_at0 l k hlt);have hxm:=HN.out _ (List.getElem_mem hlt);(have HC:Hid (∀j (hj:j<l.length),w.cell? ⟨b,off+j*2,none⟩=some (.string (bs (l[j]).1))):=Lib.hid fun j hj=>hc _ _ (ents_at0 l j hj));obtain⟨x,hx⟩ : ∃x,x=(l[k]).1:=⟨_,rfl⟩;rw[←hx]at hc0 hxm;(have HL : ∀w,Calls Tryz.prog 83 #[.string (bs x)] w fun e w'=>e = .returned (.int .i64 (legalL x))∧w'=w:=fun w=>(rlegal_any x hxm w).mono fun e w' h=>⟨h.1,h.2.symm⟩);have HX:=Lib.hid hx;(have k0:(0:Int)≤(k:Int):=by omega);(have k1:(k:Int)<(l.length:Int):=by omega);clear hc;by_cases hq:legalL x=0
    · rw[hq]at HL
      by_cases h0:k=0
      · have hnx:Hid (SortedP (l.take (k+1))):=Lib.hid (sorted_succ hlt hS.out (by rw[←HX.out];exact hq) fun j _ h=>by omega)
        (have hI:decide (0<k)=false:=by simp;omega);clear hx hq h0;go_wp2_with fail;go_quiet ((go_at_call 83;exact(HL _).mono fun e w' h=>⟨h.1,_,h.2⟩));go_wp2_with fail;go_roundw
        case rel=>exact⟨k+1,n+nq,by go_num,hlt,hnx,by first | rfl | exact drewN_two w n nq⟩
        case measure=>simp[intOf];omega
      · obtain⟨j,hj⟩ : ∃j,k=j+1:=⟨k-1,by omega⟩
        (have hI:decide (0<k)=true:=by simp;omega);(have hk1:(k:Int)-1=(j:Int):=by omega);(have hjl:(j:Int)<(l.length:Int):=by omega);(have hj0:(0:Int)≤(j:Int):=by omega);have hcp:=HC.out j (by omega);obtain⟨y,hy⟩ : ∃y,y=(l[j]'(by omega)).1:=⟨_,rfl⟩;rw[←hy]at hcp;by_cases hord:y<x
        · have hJ:=bless_no (lt_as hord)
          have hJ2:=beq_list_false (lt_ne hord).symm
          have hnx:Hid (SortedP (l.take (k+1))):=Lib.hid (sorted_succ hlt hS.out (by rw[←HX.out];exact hq) fun j' hj' h=>by
           obtain rfl:j'=j:=by omega
           rw[←hy,←HX.out];exact hord)
          clear hx hq h0 hord hj hy;go_wp2_with fail;go_quiet ((go_at_call 83;exact(HL _).mono fun e w' h=>⟨h.1,_,h.2⟩));go_wp2_with fail;go_roundw
          case rel=>exact⟨k+1,n+nq,by go_num,hlt,hnx,by first | rfl | exact drewN_two w n nq⟩
          case measure=>simp[intOf];omega
        · have HF:Hid (decide (SortedP l)=false):=Lib.hid (by
           subst hj
           exact not_order hlt (by rw[←hy,←HX.out];exact hord))
          have hlw:=leq_ways hord;clear hx hq h0 hord hj hy;rcases hlw with⟨hJ,hJ2⟩ | ⟨hJ,hJ2⟩
          all_goals (
           go_wp2_with fail;go_quiet ((go_at_call 83;exact(HL _).mono fun e w' h=>⟨h.1,_,h.2⟩));go_wp2_with fail;go_ret
           exact⟨ret_bool HF.out.symm,n+nq,by first | rfl | exact drewN_two w n nq⟩)
    · have HF:Hid (decide (SortedP l)=false):=Lib.hid (not_legal hlt (by rw[←hx];exact hq))
      (have hI:(legalL x != 0)=true:=by rw[bne_iff_ne];exact hq);generalize legalL x=q at *;clear hx hq;go_wp2_with fail;go_quiet ((go_at_call 83;exact(HL _).mono fun e w' h=>⟨h.1,_,h.2⟩));go_wp2_with fail;go_ret;exact⟨ret_bool HF.out.symm,n+nq,by first | rfl | exact drewN_two w n nq⟩
  · have hke:k=l.length:=by omega
    have HF:Hid (decide (SortedP l)=true):=Lib.hid (by have:=hS.out;rw[hke,List.take_length]at this;simpa using this);(have hI2:decide (k<l.length)=false:=by simp;omega);clear hke hlt;go_wp2_with fail;go_ret;exact⟨ret_bool HF.out.symm,n,rfl⟩
end Go.Proofs.YtkoaicabkgaglaaGreatDoor
namespace Go.Proofs.YtkoaicabkgaglaaGreatDoor
open Go.RowKit Go.Shelf
attribute [local go_sem ↓] Go.wp_at_zero Go.wp_at_succ
end Go.Proofs.YtkoaicabkgaglaaGreatDoor
namespace Go.Proofs.YtkoaicabkgaglaaGreatDoor
open Go.RowKit Go.Shelf
attribute [local go_sem ↓] Go.wp_at_zero Go.wp_at_succ
end Go.Proofs.YtkoaicabkgaglaaGreatDoor
namespace Go.Proofs.YtkoaicabkgaglaaGreatDoor
open Go.RowKit Go.Shelf
attribute [local go_sem ↓] Go.wp_at_zero Go.wp_at_succ
end Go.Proofs.YtkoaicabkgaglaaGreatDoor
namespace Go.Proofs.YtkoaicabkgaglaaGreatDoor
open Go.RowKit Go.Shelf
attribute [local go_sem ↓] Go.wp_at_zero Go.wp_at_succ
end Go.Proofs.YtkoaicabkgaglaaGreatDoor
namespace Go.Proofs.YtkoaicabkgaglaaGreatDoor
open Go.RowKit Go.Shelf
open Go.WideShapes (add_plain)
attribute [local go_sem ↓] Go.wp_at_zero Go.wp_at_succ
theorem infoEnt:(Tryz.prog.info? 123).map (fun i=>(i.zero,i.size,i.bytes))=some (some (.agg #[.string ⟨#[]⟩, .int .i64 0]),2,24):=by kernel_rfl
end Go.Proofs.YtkoaicabkgaglaaGreatDoor
namespace Go.Proofs.YtkoaicabkgaglaaGreatDoor
open Go.RowKit Go.Shelf
open Go.WideShapes (add_plain)
attribute [local go_sem ↓] Go.wp_at_zero Go.wp_at_succ
end Go.Proofs.YtkoaicabkgaglaaGreatDoor
namespace Go.Proofs.YtkoaicabkgaglaaGreatDoor
open Go.RowKit Go.Shelf
open Go.WideShapes (add_plain)
attribute [local go_sem ↓] Go.wp_at_zero Go.wp_at_succ
end Go.Proofs.YtkoaicabkgaglaaGreatDoor
