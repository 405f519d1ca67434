import Derived.Test.YtinoogmaikhpjaaGreatDoorR11
import Derived.MapKept
import Derived.RowKit3
import Derived.Below
import Derived.Test.YtinoogmaikhpjaaGreatDoorR26
import Derived.Deep.RegionHeld3
import Derived.Deep.DeepCutAuto
namespace Go.Proofs.YtinoogmaikhpjaaGreatDoor
open Go.RowKit Go.Shelf
attribute [local go_sem ↓] Go.wp_at_zero Go.wp_at_succ
set_option maxRecDepth 100000 in
set_option maxHeartbeats 4000000 in
theorem palive_c {X:Nat→Prop}(k:KernL)(p:Int)(ao ad af ap:Option Addr)(co cd cf cp:Nat)(w:World)(hP:PsX k.ps (.slice ap k.ps.length cp) X w) :
 Calls Tryz.prog 43 #[.agg #[.slice ao k.l.length co, .int .i64 k.most, .int .i64 k.room, .slice ad k.t.ds.length cd, .slice af k.t.fs.length cf, .slice ap k.ps.length cp], .int .i64 p] w fun e w'=>e = .returned (.bool (liveB k.ps p))∧Below w.heap.size w w':=by
 have S0:=Lib.hid (Sf.start (w:=w) (X:=fun _=>False) (G:= [PsX k.ps (.slice ap k.ps.length cp)]) (fun _ h=>h.elim) (th1 (PsX.firm _ _) ((PsX.firm _ _).sub hP fun _ h=>h.elim)));clear hP;go_enter Tryz.func43,Tryz.ntmps43;go_upto_region 1 with(fail);refine code_fresh1 ?_;intro W1 hb hA0 hs;have S1:=Lib.hid (S0.out.new1 hb hA0);clear hb hA0 hs;obtain⟨-, -, -, -, -,k5⟩:=cells6 (S1.out.at 0 rfl);by_cases h1:p<0
 · have i1:decide (0≤p)=false:=decide_eq_false (by omega)
   have i2:decide (p<0)=true:=decide_eq_true h1;have HL:Hid (liveB k.ps p=false):=Lib.hid (by unfold liveB;rw[i1];rfl);clear h1;go_wp2_with fail;go_ret;exact⟨by rw[HL.out];rfl,S1.out.bel⟩
 · have i1:decide (0≤p)=true:=decide_eq_true (by omega)
   have i2:decide (p<0)=false:=decide_eq_false h1;by_cases h2:p<k.ps.length
   rotate_left
   · have i3:decide (p<(k.ps.length:Int))=false:=decide_eq_false h2
     have HL:Hid (liveB k.ps p=false):=Lib.hid (by unfold liveB;rw[i3,Bool.false_and,Bool.and_false]);clear h1 h2;go_wp2_with fail;go_ret;exact⟨by rw[HL.out];rfl,S1.out.bel⟩
   · have i3:decide (p<(k.ps.length:Int))=true:=decide_eq_true h2
     obtain⟨a,rfl⟩:=Int.eq_ofNat_of_zero_le (show 0≤p by omega);(have ha:a<k.ps.length:=by omega);obtain⟨b,off,eap, -, -, -,pc3⟩:=PsX.proc (S1.out.g 0 rfl) a ha;subst eap;obtain⟨l,hl⟩ : ∃l,l=k.ps[a].live:=⟨_,rfl⟩;rw[←hl]at pc3;have HL:Hid (liveB k.ps (a:Int)=l):=Lib.hid ((live_at ha).1.trans hl.symm);(have a0:(0:Int)≤(a:Int):=by omega);have a1:(a:Int)<(k.ps.length:Int):=h2;clear hl h1 h2;clear k5;obtain⟨-, -, -, -, -,k5⟩:=cells6 (S1.out.at 0 rfl);go_wp2_with fail;go_ret;exact⟨by rw[HL.out];rfl,S1.out.bel⟩
end Go.Proofs.YtinoogmaikhpjaaGreatDoor
