import Derived.Test.YtkoaicabkgaglaaGreatDoorR13
import Derived.Test.YtkoaicabkgaglaaGreatDoorR35
import Derived.Test.YtkoaicabkgaglaaGreatDoorR37
import Derived.Deep.RegionHeld3
import Derived.Deep.DeepCutAuto
namespace Go.Proofs.YtkoaicabkgaglaaGreatDoor
def BaseP (l:List NodeL)(n:NodeL):Prop:=plainB n=true∧(n.kind=2→n.data = [])∧(n.kind≠2→n.names = [])∧SortedP n.names∧namableB l n.names=true
theorem okC_iff (l:List NodeL)(i:Nat)(n:NodeL):okC l i n=true↔(n.kind=0∧n=zeroN)∨(n.kind≠0∧BaseP l n∧n.links=linksC i (nmL l i (0,0))∧(0<n.links∨0<n.opn)∧(n.kind=2→i≠0→placedC l i n (nmL l i (0,0))=true)):=by
 unfold okC BaseP;by_cases h:n.kind=0
 · rw[if_pos h]
   simp[h]
 · rw[if_neg h,range_all]
   constructor
   · intro hp
     have p0:=hp 0 (by decide);have p1:=hp 1 (by decide);have p2:=hp 2 (by decide);have p3:=hp 3 (by decide);have p4:=hp 4 (by decide);have p5:=hp 5 (by decide);have p6:=hp 6 (by decide);simp only[partC,Bool.and_eq_true,Bool.or_eq_true,Bool.not_eq_true',decide_eq_true_iff,decide_eq_false_iff_not]at p0 p1 p2 p3 p4 p5 p6;refine .inr ⟨h,⟨p0,fun e=> ?_,fun e=> ?_,p3.1,p3.2⟩,p4,p5,fun e1 e2=> ?_⟩
     · rcases p1 with p1 | p1
       · exact absurd e p1
       · exact p1
     · rcases p2 with p2 | p2
       · exact absurd p2 e
       · exact List.eq_nil_of_length_eq_zero p2
     · rcases p6 with(p6 | p6) | p6
       · exact absurd e1 p6
       · omega
       · exact p6
   · rintro(⟨h1,_⟩ | ⟨_,⟨p0,p1,p2,p3a,p3b⟩,p4,p5,p6⟩)
     · exact absurd h1 h
     · intro i' hi'
       match i',hi' with
       | 0,_=>exact p0
       | 1,_ =>
          simp only[partC,Bool.or_eq_true,Bool.not_eq_true',decide_eq_true_iff,decide_eq_false_iff_not];by_cases e:n.kind=2
          · exact .inr (p1 e)
          · exact .inl e
       | 2,_ =>
          simp only[partC,Bool.or_eq_true,decide_eq_true_iff];by_cases e:n.kind=2
          · exact .inl e
          · exact .inr (by rw[p2 e];rfl)
       | 3,_ =>
          simp only[partC,Bool.and_eq_true,decide_eq_true_iff];exact⟨p3a,p3b⟩
       | 4,_ =>
          simp only[partC,decide_eq_true_iff];exact p4
       | 5,_ =>
          simp only[partC,Bool.or_eq_true,decide_eq_true_iff];exact p5
       | 6,_ =>
          simp only[partC,Bool.or_eq_true,Bool.not_eq_true',decide_eq_true_iff,decide_eq_false_iff_not];by_cases e:n.kind=2
          · by_cases e2:(i:Int)=0
            · exact .inl (.inr e2)
            · exact .inr (p6 e (by omega))
          · exact .inl (.inl e)
theorem okR_iffD (l:List NodeL)(i:Nat)(n:NodeL):okR l i n=true↔(n.kind=0∧n=zeroN)∨(n.kind≠0∧BaseP l n∧lastR l i n (nmL l i (0, -1))=true):=by
 unfold okR BaseP;by_cases h:n.kind=0
 · rw[if_pos h]
   simp[h]
 · rw[if_neg h]
   simp only[Bool.and_eq_true,Bool.or_eq_true,Bool.not_eq_true',decide_eq_true_iff,decide_eq_false_iff_not];constructor
   · rintro⟨⟨⟨⟨⟨p0,p2⟩,p1⟩,p3⟩,p4⟩,p5⟩
     refine .inr ⟨h,⟨p0,fun e=> ?_,fun e=> ?_,p3,p4⟩,p5⟩
     · rcases p1 with p1 | p1
       · exact absurd e p1
       · exact p1
     · rcases p2 with p2 | p2
       · exact absurd p2 e
       · exact List.eq_nil_of_length_eq_zero p2
   · rintro(⟨h1,_⟩ | ⟨_,⟨p0,p1,p2,p3,p4⟩,p5⟩)
     · exact absurd h1 h
     · refine⟨⟨⟨⟨⟨p0,?_⟩,?_⟩,p3⟩,p4⟩,p5⟩
       · by_cases e:n.kind=2
         · exact .inl e
         · exact .inr (by rw[p2 e];rfl)
       · by_cases e:n.kind=2
         · exact .inr (p1 e)
         · exact .inl e
def AllBase (l:List NodeL):Prop:=∀i (h:i<l.length),(l[i].kind=0∧l[i]=zeroN)∨(l[i].kind≠0∧BaseP l l[i])
theorem base_names {l:List NodeL}(h:AllBase l){n:NodeL}(hn:n∈l){e:EntL}(he:e∈n.names):n.kind=2∧gotB l e.2=true∧e.2≠0:=by
 obtain⟨i,hi,rfl⟩:=List.mem_iff_getElem.1 hn;rcases h i hi with⟨_,hz⟩ | ⟨_,_,_,h2,_,h3⟩
 · rw[hz]at he
   cases he
 · refine⟨?_,?_⟩
   · by_cases e2:l[i].kind=2
     · exact e2
     · rw[h2 e2]at he;cases he
   · have:=List.all_eq_true.1 h3 e he
     unfold namB at this;simpa using this
theorem base_zero {l:List NodeL}(h:AllBase l)(s:Nat × Int):nmL l 0 s=s :=
 nm_none l 0 s fun _ hn _ he=>(base_names h hn he).2.2
theorem base_holder {l:List NodeL}(h:AllBase l)(i x:Int)(hc:0<(nmL l i (0,x)).1) : ∃k:Nat,(nmL l i (0,x)).2=k∧∃hk:k<l.length,l[k].kind=2:=by
 obtain⟨k,e,hk,en,he,_⟩:=nm_holds l i x hc;exact⟨k,e,hk,(base_names h (List.getElem_mem hk) he).1⟩
def DirUp (l:List NodeL):Prop:=∀i (h:i<l.length),l[i].kind=2→i≠0→∃k:Nat,l[i].up=k∧(k=0∨∃hk:k<l.length,l[k].kind=2)
theorem climb_root {l:List NodeL}(hd:DirUp l) : ∀(f:Nat) (k:Nat),(k=0∨∃hk:k<l.length,l[k].kind=2)→climbC l f k=true→rootR l f k=true:=by
 intro f
 induction f with
 | zero=>intro k _ h;cases h
 | succ f ih =>
    intro k hk h;unfold climbC at h;unfold rootR;split
    · rfl
    · rename_i h0
      rw[if_neg h0]at h;rcases hk with rfl | ⟨hk,hk2⟩
      · exact absurd rfl h0
      · rw[if_pos (nat_in hk),at_nat l k hk]at h
        have hg:gotB l k=true:=by
         unfold gotB;rw[nat_in hk,at_nat l k hk,hk2];rfl
        rw[hg,at_nat l k hk,hk2];obtain⟨k',e,hk'⟩:=hd k hk hk2 (by omega);rw[e]at h ⊢;exact ih k' hk' h
theorem dirup_of {l:List NodeL}(h:AllBase l)(hp : ∀i (hi:i<l.length),l[i].kind=2→i≠0→∃x,(nmL l i (0,x)).1=0∧l[i].up=0∨0<(nmL l i (0,x)).1∧l[i].up=(nmL l i (0,x)).2):DirUp l:=by
 intro i hi h2 h0;obtain⟨x,⟨_,e⟩ | ⟨hc,e⟩⟩:=hp i hi h2 h0
 · exact⟨0,e, .inl rfl⟩
 · obtain⟨k,e2,hk⟩:=base_holder h i x hc
   exact⟨k,by rw[e,e2], .inr hk⟩
theorem oks_same (l:List NodeL)(h0:0<l.length)(hk:l[0].kind=2):(l[0].up=0∧∀i (h:i<l.length),okC l i l[i]=true)↔ ∀i (h:i<l.length),okR l i l[i]=true:=by
 constructor
 · rintro⟨hu,hC⟩
   have hB:AllBase l:=fun i h=>by
    rcases(okC_iff l i l[i]).1 (hC i h)with h1 | ⟨h1,h2,_⟩
    · exact .inl h1
    · exact .inr ⟨h1,h2⟩
   have hD:DirUp l:=dirup_of hB fun i hi h2 hi0=>by
    rcases(okC_iff l i l[i]).1 (hC i hi)with⟨h1,_⟩ | ⟨_,_,_,_,hp⟩
    · omega
    · refine⟨0,?_⟩
      have:=hp h2 hi0;unfold placedC at this;split at this
      · rename_i hc
        simp only[Bool.and_eq_true,decide_eq_true_iff]at this;exact .inl ⟨hc,this.2⟩
      · rename_i hc
        split at this
        · simp only[Bool.and_eq_true,decide_eq_true_iff]at this
          exact .inr ⟨Nat.pos_of_ne_zero hc,this.1⟩
        · cases this
   intro i hi;rw[okR_iffD];rcases(okC_iff l i l[i]).1 (hC i hi)with h1 | ⟨h1,h2,h3,h4,h5⟩
   · exact .inl h1
   · refine .inr ⟨h1,h2,?_⟩
     unfold lastR;by_cases e0:(i:Int)=0
     · rw[if_pos e0]
       (obtain rfl:i=0:=by omega);rw[show((0:Nat):Int)=0 from rfl,base_zero hB]at h3;simp only[Bool.and_eq_true,decide_eq_true_iff];exact⟨⟨hk,hu⟩,h3⟩
     · rw[if_neg e0]
       have hs:=nm_starts l i (-1) 0;unfold linksC at h3;rw[if_neg e0,←hs.1]at h3
       rw[if_neg (by
        rintro(hc | ⟨hc,ho⟩)
        · exact hc h3
        · rw[hc]at h3;omega)]
       by_cases e2:l[i].kind=2
       · rw[if_neg (by simpa using e2)]
         have hp:=h5 e2 (by omega);unfold placedC at hp;rw[←hs.1]at hp;split
         · rename_i hc
           rw[if_pos hc]at hp;exact hp
         · rename_i hc
           rw[if_neg hc]at hp;split at hp
           · rename_i h1c
             rw[hs.2 (Nat.pos_of_ne_zero hc)];simp only[Bool.and_eq_true,decide_eq_true_iff]at hp ⊢;exact⟨⟨h1c,hp.1⟩,climb_root hD _ i (.inr ⟨hi,e2⟩) (climb_mono l _ _ hp.2)⟩
           · cases hp
       · rw[if_pos e2]
 · intro hR
   have hB:AllBase l:=fun i h=>by
    rcases(okR_iffD l i l[i]).1 (hR i h)with h1 | ⟨h1,h2,_⟩
    · exact .inl h1
    · exact .inr ⟨h1,h2⟩
   have hroot:l[0].up=0∧l[0].links=1:=by
    rcases(okR_iffD l 0 l[0]).1 (hR 0 h0)with⟨h1,_⟩ | ⟨_,_,hl⟩
    · omega
    · unfold lastR at hl
      rw[if_pos (show((0:Nat):Int)=0 from rfl)]at hl;simp only[Bool.and_eq_true,decide_eq_true_iff]at hl;exact⟨hl.1.2,hl.2⟩
   refine⟨hroot.1,fun i hi=> ?_⟩;rw[okC_iff];rcases(okR_iffD l i l[i]).1 (hR i hi)with h1 | ⟨h1,h2,h3⟩
   · exact .inl h1
   · refine .inr ⟨h1,h2,?_⟩
     unfold lastR at h3;by_cases e0:(i:Int)=0
     · obtain rfl:i=0:=by omega
       rw[show((0:Nat):Int)=0 from rfl,base_zero hB];exact⟨hroot.2, .inl (by omega),fun _ h=>absurd rfl h⟩
     · rw[if_neg e0]at h3
       have hs:=nm_starts l i (-1) 0;unfold linksC;rw[if_neg e0,←hs.1];split at h3
       · cases h3
       · rename_i hno
         (have hno1:l[i].links=((nmL l i (0, -1)).1:Int):=Decidable.byContradiction fun hc=>hno (.inl hc));(have hno2:(nmL l i (0, -1)).1=0→¬l[i].opn<1:=fun hc ho=>hno (.inr ⟨hc,ho⟩));refine⟨hno1,?_,fun e2 _=> ?_⟩
         · by_cases hc:(nmL l i (0, -1)).1=0
           · exact .inr (by have:=hno2 hc;omega)
           · exact .inl (by omega)
         · rw[if_neg (by simpa using e2)]at h3
           unfold placedC;rw[←hs.1];split
           · rename_i hc
             rw[if_pos hc]at h3;exact h3
           · rename_i hc
             rw[if_neg hc,hs.2 (Nat.pos_of_ne_zero hc)]at h3;simp only[Bool.and_eq_true,decide_eq_true_iff]at h3;rw[if_pos h3.1.1];simp only[Bool.and_eq_true,decide_eq_true_iff];exact⟨h3.1.2,climb_len l h0 _ (root_climb l _ _ h3.2)⟩
theorem rights_same (l:List NodeL)(most room:Int):rightC l most room=rightR l most room:=by
 rw[Bool.eq_iff_iff];unfold rightC rightR rootedB;simp only[Bool.and_eq_true,Bool.not_eq_true',decide_eq_true_iff,decide_eq_false_iff_not,range_all];constructor
 · rintro⟨⟨⟨⟨⟨h0,h1⟩,h2⟩,h3⟩,h4⟩,h5⟩
   refine⟨⟨⟨⟨by omega,h3⟩,h4⟩,h1⟩,fun i hi=> ?_⟩;have a0:atI l 0=l[0]:=at_nat l 0 h0;rw[a0]at h1 h2;rw[at_nat l i hi];exact(oks_same l h0 h1).1 ⟨h2,fun i hi=>by have:=h5 i hi;rwa [at_nat l i hi]at this⟩ i hi
 · rintro⟨⟨⟨⟨h0,h3⟩,h4⟩,h1⟩,h5⟩
   (have h0':0<l.length:=by omega);have a0:atI l 0=l[0]:=at_nat l 0 h0';rw[a0]at h1;(have:=(oks_same l h0' h1).2 fun i hi=>by have:=h5 i hi;rwa [at_nat l i hi]at this);refine⟨⟨⟨⟨⟨h0',by rw[a0];exact h1⟩,by rw[a0];exact this.1⟩,h3⟩,h4⟩,fun i hi=> ?_⟩;rw[at_nat l i hi];exact this.2 i hi
end Go.Proofs.YtkoaicabkgaglaaGreatDoor
namespace Go.Proofs.YtkoaicabkgaglaaGreatDoor
open Go.RowKit Go.Shelf
attribute [local go_sem ↓] Go.wp_at_zero Go.wp_at_succ
theorem dright_c {X:Nat→Prop}{l:List NodeL}{v:Value}{w:World}(most room:Int)(h:DiskX l v X w)(hs:Small l)(hf:FitD l) :
 Calls Tryz.prog 11 #[.agg #[v, .int .i64 most, .int .i64 room]] w fun e w'=>e = .returned (.bool (rightR l most room))∧Below w.heap.size w w':=by
 obtain⟨ms,rfl,hr,_⟩:=h;rw[←rights_same];exact cright_any v ms most room w hr hs hf
set_option maxRecDepth 100000 in
set_option maxHeartbeats 4000000 in
theorem pRight_c {X:Nat→Prop}(k:KernL)(ao ad af ap:Option Addr)(co cd cf cp:Nat)(w:World)(hD:DiskX k.l (.slice ao k.l.length co) X w)(hT:TabX k.t (.slice ad k.t.ds.length cd) (.slice af k.t.fs.length cf) X w)(hP:PsX k.ps (.slice ap k.ps.length cp) X w)(hz:SizeT k.t)(hs:Small k.l)(hf:FitD k.l)(hpl:k.ps.length≤1000) :
 Calls Tryz.prog 5 #[.agg #[.slice ao k.l.length co, .int .i64 k.most, .int .i64 k.room, .slice ad k.t.ds.length cd, .slice af k.t.fs.length cf, .slice ap k.ps.length cp]] w fun e w'=>e = .returned (.bool (rightK k))∧Below w.heap.size w w':=by
 have S0:=Lib.hid (Sf.start (w:=w) (X:=fun _=>False) (G:= [DiskX k.l (.slice ao k.l.length co),TabX k.t (.slice ad k.t.ds.length cd) (.slice af k.t.fs.length cf),PsX k.ps (.slice ap k.ps.length cp)]) (fun _ h=>h.elim) (th3 (DiskX.firm _ _) ((DiskX.firm _ _).sub hD fun _ h=>h.elim) (TabX.firm _ _ _) ((TabX.firm _ _ _).sub hT fun _ h=>h.elim) (PsX.firm _ _) ((PsX.firm _ _).sub hP fun _ h=>h.elim)));have HZ:=Lib.hid hz;have HS:=Lib.hid hs;have HF:=Lib.hid hf;have HPL:=Lib.hid hpl;have hl:k.l.length≤10000:=Nat.le_trans hs.1 (by decide);(have hn : ∀n∈k.l,n.names.length≤10000:=fun n h=>Nat.le_trans (hs.2 n h).2 (by decide));have HL:=Lib.hid hl;have HN:=Lib.hid hn;have hfl:k.t.fs.length≤20:=hz.2.1;clear hD hT hP hz hs hf hl hn hpl;go_enter Tryz.func5,Tryz.ntmps5;go_upto_region 1 with(fail);refine code_fresh1 ?_;intro W1 hb hA0 hs;have S1:=Lib.hid (S0.out.new1 hb hA0);clear hb hA0 hs;have h_kd:=k_disk (S1.out.at 0 rfl);have h_kt:=k_tab (S1.out.at 0 rfl);go_wp2_with (first | (refine wpList_load_mid rfl 24 _ rfl _ 0 rfl _ _ h_kd Tryz.underlying24 rfl (by kernel_rfl) ?_) | (refine wpList_load_midG rfl 24 _ rfl _ 0 rfl _ _ h_kd Tryz.underlying24 rfl (by kernel_rfl) ?_) | (refine wpList_load_mid rfl 28 _ rfl _ 3 rfl _ _ h_kt Tryz.underlying28 rfl (by kernel_rfl) ?_) | (refine wpList_load_midG rfl 28 _ rfl _ 3 rfl _ _ h_kt Tryz.underlying28 rfl (by kernel_rfl) ?_));refine(dright_c k.most k.room (S1.out.g 0 rfl) HS.out HF.out).mono ?_
 rintro e W2 ⟨rfl,hb⟩;clear h_kd h_kt;have S2:=Lib.hid (S1.out.call hb);obtain⟨r0,hr0⟩ : ∃r,r=rightR k.l k.most k.room:=⟨_,rfl⟩;rw[←hr0];have HR0:=Lib.hid hr0;clear hr0;clear hb
 cases r0 with
 | false =>
    have HO:Hid (rightK k=false):=Lib.hid (by rw[rightK_parts,←HR0.out,Bool.false_and,Bool.false_and]);go_wp2_with fail;go_ret;exact⟨by rw[HO.out];rfl,S2.out.bel⟩
 | true =>
    obtain⟨-, -, -,k3,k4, -⟩:=cells6 (S2.out.at 0 rfl);go_wp2_with fail;refine(pright_c k.t _ _ _ _ W2 (S2.out.g 1 rfl) HZ.out).mono ?_;rintro e W3 ⟨rfl,hb⟩;clear k3 k4;have S3:=Lib.hid (S2.out.call hb);obtain⟨r1,hr1⟩ : ∃r,r=rightB k.t:=⟨_,rfl⟩;rw[←hr1];have HR1:=Lib.hid hr1;clear hr1;clear hb
    cases r1 with
    | false =>
       have HO:Hid (rightK k=false):=Lib.hid (by rw[rightK_parts,←HR1.out,Bool.false_and,Bool.and_false,Bool.false_and]);go_wp2_with fail;go_ret;exact⟨by rw[HO.out];rfl,S3.out.bel⟩
    | true =>
       obtain⟨-, -, -, -,k4,k5⟩:=cells6 (S3.out.at 0 rfl);by_cases h8:k.t.fs.length=8
       rotate_left
       · have e81:((k.t.fs.length:Int) == 8)=false:=by simpa using(show ¬(k.t.fs.length:Int)=8 by omega)
         have e82:decide ((k.t.fs.length:Int)=8)=false:=decide_eq_false (by omega);(have e83:((k.t.fs.length:Int) != 8)=true:=by simpa using(show ¬(k.t.fs.length:Int)=8 by omega));(have e84:(k.t.fs.length == 8)=false:=by simpa using h8);(have e85:(k.t.fs.length != 8)=true:=by simpa using h8);have H8:=Lib.hid h8;clear h8;have HO:Hid (rightK k=false):=Lib.hid (by rw[rightK_parts,decide_eq_false H8.out,Bool.false_and,Bool.and_false,Bool.and_false,Bool.false_and]);go_wp2_with fail;go_ret;exact⟨by rw[HO.out];rfl,S3.out.bel⟩
       · have e81:((k.t.fs.length:Int) == 8)=true:=by simpa using(show(k.t.fs.length:Int)=8 by omega)
         have e82:decide ((k.t.fs.length:Int)=8)=true:=decide_eq_true (by omega);(have e83:((k.t.fs.length:Int) != 8)=false:=by simpa using(show(k.t.fs.length:Int)=8 by omega));(have e84:(k.t.fs.length == 8)=true:=by simpa using h8);(have e85:(k.t.fs.length != 8)=false:=by simpa using h8);have H8:=Lib.hid h8;clear h8;by_cases hp:k.ps.length≤8
         rotate_left
         · have g8:decide ((8:Int)<(k.ps.length:Int))=true:=decide_eq_true (by omega)
           have g9:decide ((k.ps.length:Int)>8)=true:=decide_eq_true (by omega);have HP8:=Lib.hid hp;clear hp;have HO:Hid (rightK k=false):=Lib.hid (by rw[rightK_parts,decide_eq_false HP8.out,Bool.and_false,Bool.and_false,Bool.and_false,Bool.false_and]);go_wp2_with fail;go_ret;exact⟨by rw[HO.out];rfl,S3.out.bel⟩
         · have g8:decide ((8:Int)<(k.ps.length:Int))=false:=decide_eq_false (by omega)
           have g9:decide ((k.ps.length:Int)>8)=false:=decide_eq_false (by omega);have HP8:=Lib.hid hp;clear hp;have HRT:Hid (RightT k.t):=Lib.hid (right_B.1 HR1.out.symm);have HO:Hid (rightK k=((List.range 8).all (procOk k) && openedB k)):=Lib.hid (by rw[rightK_parts,←HR0.out,←HR1.out,decide_eq_true H8.out,decide_eq_true HP8.out];rfl);go_wp2_with fail;clear k4 k5;go_loopw [25] (fun i wr=>∃p:Nat,i = .int .i64 p∧p≤8∧Hid (Sf (fun _=>False) w [(w.heap.size,#[.slice ao k.l.length co, .int .i64 k.most, .int .i64 k.room, .slice ad k.t.ds.length cd, .slice af k.t.fs.length cf, .slice ap k.ps.length cp],31)] [DiskX k.l (.slice ao k.l.length co),TabX k.t (.slice ad k.t.ds.length cd) (.slice af k.t.fs.length cf),PsX k.ps (.slice ap k.ps.length cp)] wr)∧Hid (∀q:Nat,q<p→procOk k q=true)) (fun i _=>8-(RowKit.intOf i).toNat)
           case atStart=>exact⟨0,rfl,Nat.zero_le _,S3,Lib.hid (fun q hq=>by omega)⟩
           case round =>
            clear S3;obtain⟨p,rfl,hp,S9,HPO⟩:=hrel;by_cases hlt:p<8
            · have i1:decide ((p:Int)<(8:Int))=true:=decide_eq_true (by omega)
              have wp:IntKind.i64.wrap ((p:Int)+1)=(p:Int)+1:=Go.IntWalk.i64_in _ (by omega);have h_k:=(S9.out.at 0 rfl);go_wp2_with (first | (refine wpList_load_row rfl 31 _ rfl _ rfl 31 _ (0,0) _ h_k Tryz.underlying31 rfl (by kernel_rfl) ?_));refine(pprocR_c k p _ _ _ _ _ _ _ _ wr (S9.out.g 0 rfl) (S9.out.g 1 rfl) (S9.out.g 2 rfl) HZ.out HRT.out HL.out HN.out).mono ?_;rintro e W10 ⟨rfl,hb⟩;clear h_k;have S10:=Lib.hid (S9.out.call hb);obtain⟨r2,hr2⟩ : ∃r,r=procOk k p:=⟨_,rfl⟩;rw[←hr2];have HR2:=Lib.hid hr2;clear hr2;clear hb
              cases r2 with
              | false =>
                 have HN2:Hid (rightK k=false):=Lib.hid (by rw[HO.out,show(List.range 8).all (procOk k)=false from List.all_eq_false.2 ⟨p,List.mem_range.2 hlt,by rw[←HR2.out];decide⟩,Bool.false_and]);go_wp2_with fail;go_ret;exact⟨by rw[HN2.out];rfl,S10.out.bel⟩
              | true =>
                 have HPn:Hid (∀q:Nat,q<p+1→procOk k q=true):=Lib.hid (fun q hq=>by rcases Nat.lt_or_ge q p with h | h;exact HPO.out q h;obtain rfl:q=p:=(by omega);exact HR2.out.symm);go_wp2_with fail;go_roundw
                 case rel=>exact⟨p+1,by go_num,hlt,S10,HPn⟩
                 case measure=>simp[RowKit.intOf];omega
            · have i1:decide ((p:Int)<(8:Int))=false:=decide_eq_false (by omega)
              have HA:Hid (∀q:Nat,q<8→procOk k q=true):=Lib.hid (fun q hq=>HPO.out q (by omega));have HO2:Hid (rightK k=openedB k):=Lib.hid (by rw[HO.out,show(List.range 8).all (procOk k)=true from List.all_eq_true.2 fun q hq=>HA.out q (List.mem_range.1 hq),Bool.true_and]);have h_k:=(S9.out.at 0 rfl);go_wp2_with (first | (refine wpList_load_row rfl 31 _ rfl _ rfl 31 _ (0,0) _ h_k Tryz.underlying31 rfl (by kernel_rfl) ?_));refine(popensR_c k _ _ _ _ _ _ _ _ wr (S9.out.g 0 rfl) (S9.out.g 1 rfl) (S9.out.g 2 rfl) HZ.out HRT.out HL.out HN.out HPL.out (procs_cwd HP8.out HA.out) (right_free HR0.out.symm)).mono ?_;rintro e W10 ⟨rfl,hb⟩;clear h_k;have S10:=Lib.hid (S9.out.call hb);clear hb;go_wp2_with fail;go_ret;exact⟨by rw[HO2.out];rfl,S10.out.bel⟩
end Go.Proofs.YtkoaicabkgaglaaGreatDoor
