import Derived.Test.YtmiekcdkamgknaaGreatDoorProg
import Derived.Test.YtmiekcdkamgknaaGreatDoorR10
import Derived.Test.YtmiekcdkamgknaaGreatDoorR24
namespace Go.Proofs.YtmiekcdkamgknaaGreatDoor
open Go.Eng
def ehd (t:Nat):Value:= .pointer (some ⟨15,t,none⟩)
def ert (t:Nat):Value:= .iface 184 (.agg ⟨[ehd t]⟩)
def etiOf (t kd:Nat)(el:Option Nat):TI:=⟨t,ehd t,ert t,kd,el⟩
def exsL:List (FuncId × XK):= [(76, .valueOf),(77, .typ),(78, .isNil),(128, .typeOf),(129, .elem),(130, .set)]
def ecf:Cfg:= {
 nb:=15+1
 xs:=xsOf exsL
 tis:= [etiOf 200 25 none,etiOf 94 2 none,etiOf 99 22 (some 94)]
 mms:= [⟨ert 99, "Kind",[], .int .u8 22⟩,⟨ert 99, "Elem",[],ert 94⟩,⟨ert 94, "Kind",[], .int .u8 2⟩,⟨ert 94, "Implements",[ert 63], .bool true⟩,⟨ert 200, "AssignableTo",[ert 94], .bool false⟩,⟨ert 94, "AssignableTo",[ert 94], .bool true⟩]}
theorem emm_ok : ∀m∈ecf.mms,MmOk Tryz.prog ecf.nb m:=by
 intro m hm;simp only[ecf,List.mem_cons,List.not_mem_nil,or_false]at hm;rcases hm with rfl | rfl | rfl | rfl | rfl | rfl
 all_goals exact⟨by kernel_rfl,by kernel_rfl,by kernel_rfl,by kernel_rfl⟩
theorem eti_ok : ∀x∈ecf.tis,TIOk Tryz.prog ecf.nb x:=by
 intro m hm;simp only[ecf,List.mem_cons,List.not_mem_nil,or_false]at hm;rcases hm with rfl | rfl | rfl
 all_goals exact⟨by kernel_rfl,by kernel_rfl,by kernel_rfl,by kernel_rfl,by kernel_rfl,by kernel_rfl,by kernel_rfl⟩
theorem exok [Base]:XOk Tryz.prog ecf:=by
 refine⟨fun f k h=>xsOf_ok (l:=exsL) ?_ h,eti_ok,emm_ok,fun _ _ h=>by cases h⟩;intro p hp;simp only[exsL,List.mem_cons,List.not_mem_nil,or_false]at hp;rcases hp with rfl | rfl | rfl | rfl | rfl | rfl
 · exact xs_ok (fn:=Tryz.f76) (by kernel_rfl) (by kernel_rfl) (by kernel_rfl) (by kernel_rfl) (by kernel_rfl)
 · exact xs_ok (fn:=Tryz.f77) (by kernel_rfl) (by kernel_rfl) (by kernel_rfl) (by kernel_rfl) (by kernel_rfl)
 · exact xs_ok (fn:=Tryz.f78) (by kernel_rfl) (by kernel_rfl) (by kernel_rfl) (by kernel_rfl) (by kernel_rfl)
 · exact xs_ok (fn:=Tryz.f128) (by kernel_rfl) (by kernel_rfl) (by kernel_rfl) (by kernel_rfl) (by kernel_rfl)
 · exact xs_ok (fn:=Tryz.f129) (by kernel_rfl) (by kernel_rfl) (by kernel_rfl) (by kernel_rfl) (by kernel_rfl)
 · exact xs_ok (fn:=Tryz.f130) (by kernel_rfl) (by kernel_rfl) (by kernel_rfl) (by kernel_rfl) (by kernel_rfl)
theorem efollow:Tryz.prog.follows .mixedOrders=true:=by kernel_rfl
def eerrV:Value:= .iface 184 (.agg ⟨[ehd 63]⟩)
end Go.Proofs.YtmiekcdkamgknaaGreatDoor
