import Derived.Test.YtbjkkijickbppaaGreatDoorProg
import Derived.Test.YtbjkkijickbppaaGreatDoorR10
namespace Go.Proofs.YtbjkkijickbppaaGreatDoor
open Go.Eng
def ehd (t:Nat):Value:= .pointer (some ⟨15,t,none⟩)
def ert (t:Nat):Value:= .iface 180 (.agg ⟨[ehd t]⟩)
def etiOf (t kd:Nat)(el:Option Nat):TI:=⟨t,ehd t,ert t,kd,el⟩
def exsL:List (FuncId × XK):= [(71, .valueOf),(72, .typ),(73, .isNil),(123, .typeOf),(124, .elem),(125, .set)]
def ecf:Cfg:= {
 nb:=15+1
 xs:=xsOf exsL
 tis:= [etiOf 197 25 none,etiOf 90 2 none,etiOf 95 22 (some 90)]
 mms:= [⟨ert 95, "Kind",[], .int .u8 22⟩,⟨ert 95, "Elem",[],ert 90⟩,⟨ert 90, "Kind",[], .int .u8 2⟩,⟨ert 90, "Implements",[ert 61], .bool true⟩,⟨ert 197, "AssignableTo",[ert 90], .bool false⟩,⟨ert 90, "AssignableTo",[ert 90], .bool true⟩]}
theorem emm_ok : ∀m∈ecf.mms,MmOk Tryz.prog ecf.nb m:=by
 intro m hm;simp only[ecf,List.mem_cons,List.not_mem_nil,or_false]at hm;rcases hm with rfl | rfl | rfl | rfl | rfl | rfl
 all_goals exact⟨by kernel_rfl,by kernel_rfl,by kernel_rfl,by kernel_rfl⟩
theorem eti_ok : ∀x∈ecf.tis,TIOk Tryz.prog ecf.nb x:=by
 intro m hm;simp only[ecf,List.mem_cons,List.not_mem_nil,or_false]at hm;rcases hm with rfl | rfl | rfl
 all_goals exact⟨by kernel_rfl,by kernel_rfl,by kernel_rfl,by kernel_rfl,by kernel_rfl,by kernel_rfl,by kernel_rfl⟩
theorem exok:XOk Tryz.prog ecf:=by
 refine⟨fun f k h=>xsOf_ok (l:=exsL) ?_ h,eti_ok,emm_ok⟩;intro p hp;simp only[exsL,List.mem_cons,List.not_mem_nil,or_false]at hp;rcases hp with rfl | rfl | rfl | rfl | rfl | rfl
 · exact xs_ok (fn:=Tryz.f71) (by kernel_rfl) (by kernel_rfl) (by kernel_rfl) (by kernel_rfl) (by kernel_rfl)
 · exact xs_ok (fn:=Tryz.f72) (by kernel_rfl) (by kernel_rfl) (by kernel_rfl) (by kernel_rfl) (by kernel_rfl)
 · exact xs_ok (fn:=Tryz.f73) (by kernel_rfl) (by kernel_rfl) (by kernel_rfl) (by kernel_rfl) (by kernel_rfl)
 · exact xs_ok (fn:=Tryz.f123) (by kernel_rfl) (by kernel_rfl) (by kernel_rfl) (by kernel_rfl) (by kernel_rfl)
 · exact xs_ok (fn:=Tryz.f124) (by kernel_rfl) (by kernel_rfl) (by kernel_rfl) (by kernel_rfl) (by kernel_rfl)
 · exact xs_ok (fn:=Tryz.f125) (by kernel_rfl) (by kernel_rfl) (by kernel_rfl) (by kernel_rfl) (by kernel_rfl)
theorem efollow:Tryz.prog.follows .mixedOrders=true:=by kernel_rfl
def eerrV:Value:= .iface 180 (.agg ⟨[ehd 61]⟩)
end Go.Proofs.YtbjkkijickbppaaGreatDoor
