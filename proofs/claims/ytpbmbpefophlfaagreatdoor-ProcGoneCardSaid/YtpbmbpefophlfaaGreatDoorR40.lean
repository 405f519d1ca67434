import Derived.Test.YtpbmbpefophlfaaGreatDoorProg
import Derived.Test.YtpbmbpefophlfaaGreatDoorR10
namespace Go.Proofs.YtpbmbpefophlfaaGreatDoor
open Go.Eng
def ehd (t:Nat):Value:= .pointer (some ⟨15,t,none⟩)
def ert (t:Nat):Value:= .iface 207 (.agg ⟨[ehd t]⟩)
def etiOf (t kd:Nat)(el:Option Nat):TI:=⟨t,ehd t,ert t,kd,el⟩
def exsL:List (FuncId × XK):= [(93, .valueOf),(94, .typ),(95, .isNil),(142, .typeOf),(143, .elem),(144, .set)]
def ecf:Cfg:= {
 nb:=15+1
 xs:=xsOf exsL
 tis:= [etiOf 222 25 none,etiOf 119 2 none,etiOf 124 22 (some 119)]
 mms:= [⟨ert 124, "Kind",[], .int .u8 22⟩,⟨ert 124, "Elem",[],ert 119⟩,⟨ert 119, "Kind",[], .int .u8 2⟩,⟨ert 119, "Implements",[ert 86], .bool true⟩,⟨ert 222, "AssignableTo",[ert 119], .bool false⟩,⟨ert 119, "AssignableTo",[ert 119], .bool true⟩]}
theorem emm_ok : ∀m∈ecf.mms,MmOk Tryz.prog ecf.nb m:=by
 intro m hm;simp only[ecf,List.mem_cons,List.not_mem_nil,or_false]at hm;rcases hm with rfl | rfl | rfl | rfl | rfl | rfl
 all_goals exact⟨by kernel_rfl,by kernel_rfl,by kernel_rfl,by kernel_rfl⟩
theorem eti_ok : ∀x∈ecf.tis,TIOk Tryz.prog ecf.nb x:=by
 intro m hm;simp only[ecf,List.mem_cons,List.not_mem_nil,or_false]at hm;rcases hm with rfl | rfl | rfl
 all_goals exact⟨by kernel_rfl,by kernel_rfl,by kernel_rfl,by kernel_rfl,by kernel_rfl,by kernel_rfl,by kernel_rfl⟩
theorem exok:XOk Tryz.prog ecf:=by
 refine⟨fun f k h=>xsOf_ok (l:=exsL) ?_ h,eti_ok,emm_ok⟩;intro p hp;simp only[exsL,List.mem_cons,List.not_mem_nil,or_false]at hp;rcases hp with rfl | rfl | rfl | rfl | rfl | rfl
 · exact xs_ok (fn:=Tryz.f93) (by kernel_rfl) (by kernel_rfl) (by kernel_rfl) (by kernel_rfl) (by kernel_rfl)
 · exact xs_ok (fn:=Tryz.f94) (by kernel_rfl) (by kernel_rfl) (by kernel_rfl) (by kernel_rfl) (by kernel_rfl)
 · exact xs_ok (fn:=Tryz.f95) (by kernel_rfl) (by kernel_rfl) (by kernel_rfl) (by kernel_rfl) (by kernel_rfl)
 · exact xs_ok (fn:=Tryz.f142) (by kernel_rfl) (by kernel_rfl) (by kernel_rfl) (by kernel_rfl) (by kernel_rfl)
 · exact xs_ok (fn:=Tryz.f143) (by kernel_rfl) (by kernel_rfl) (by kernel_rfl) (by kernel_rfl) (by kernel_rfl)
 · exact xs_ok (fn:=Tryz.f144) (by kernel_rfl) (by kernel_rfl) (by kernel_rfl) (by kernel_rfl) (by kernel_rfl)
theorem efollow:Tryz.prog.follows .mixedOrders=true:=by kernel_rfl
def eerrV:Value:= .iface 207 (.agg ⟨[ehd 86]⟩)
end Go.Proofs.YtpbmbpefophlfaaGreatDoor
