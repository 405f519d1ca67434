import Derived.Test.YtgbmmcnadmfikaaGreatDoorProg
import Derived.Test.YtgbmmcnadmfikaaGreatDoorR10
namespace Go.Proofs.YtgbmmcnadmfikaaGreatDoor
open Go.Eng
def ehd (t:Nat):Value:= .pointer (some ⟨15,t,none⟩)
def ert (t:Nat):Value:= .iface 208 (.agg ⟨[ehd t]⟩)
def etiOf (t kd:Nat)(el:Option Nat):TI:=⟨t,ehd t,ert t,kd,el⟩
def exsL:List (FuncId × XK):= [(97, .valueOf),(98, .typ),(99, .isNil),(145, .typeOf),(146, .elem),(147, .set)]
def ecf:Cfg:= {
 nb:=15+1
 xs:=xsOf exsL
 tis:= [etiOf 223 25 none,etiOf 125 2 none,etiOf 130 22 (some 125)]
 mms:= [⟨ert 130, "Kind",[], .int .u8 22⟩,⟨ert 130, "Elem",[],ert 125⟩,⟨ert 125, "Kind",[], .int .u8 2⟩,⟨ert 125, "Implements",[ert 94], .bool true⟩,⟨ert 223, "AssignableTo",[ert 125], .bool false⟩,⟨ert 125, "AssignableTo",[ert 125], .bool true⟩]}
theorem emm_ok : ∀m∈ecf.mms,MmOk Tryz.prog ecf.nb m:=by
 intro m hm;simp only[ecf,List.mem_cons,List.not_mem_nil,or_false]at hm;rcases hm with rfl | rfl | rfl | rfl | rfl | rfl
 all_goals exact⟨by kernel_rfl,by kernel_rfl,by kernel_rfl,by kernel_rfl⟩
theorem eti_ok : ∀x∈ecf.tis,TIOk Tryz.prog ecf.nb x:=by
 intro m hm;simp only[ecf,List.mem_cons,List.not_mem_nil,or_false]at hm;rcases hm with rfl | rfl | rfl
 all_goals exact⟨by kernel_rfl,by kernel_rfl,by kernel_rfl,by kernel_rfl,by kernel_rfl,by kernel_rfl,by kernel_rfl⟩
theorem exok:XOk Tryz.prog ecf:=by
 refine⟨fun f k h=>xsOf_ok (l:=exsL) ?_ h,eti_ok,emm_ok⟩;intro p hp;simp only[exsL,List.mem_cons,List.not_mem_nil,or_false]at hp;rcases hp with rfl | rfl | rfl | rfl | rfl | rfl
 · exact xs_ok (fn:=Tryz.f97) (by kernel_rfl) (by kernel_rfl) (by kernel_rfl) (by kernel_rfl) (by kernel_rfl)
 · exact xs_ok (fn:=Tryz.f98) (by kernel_rfl) (by kernel_rfl) (by kernel_rfl) (by kernel_rfl) (by kernel_rfl)
 · exact xs_ok (fn:=Tryz.f99) (by kernel_rfl) (by kernel_rfl) (by kernel_rfl) (by kernel_rfl) (by kernel_rfl)
 · exact xs_ok (fn:=Tryz.f145) (by kernel_rfl) (by kernel_rfl) (by kernel_rfl) (by kernel_rfl) (by kernel_rfl)
 · exact xs_ok (fn:=Tryz.f146) (by kernel_rfl) (by kernel_rfl) (by kernel_rfl) (by kernel_rfl) (by kernel_rfl)
 · exact xs_ok (fn:=Tryz.f147) (by kernel_rfl) (by kernel_rfl) (by kernel_rfl) (by kernel_rfl) (by kernel_rfl)
theorem efollow:Tryz.prog.follows .mixedOrders=true:=by kernel_rfl
def eerrV:Value:= .iface 208 (.agg ⟨[ehd 94]⟩)
end Go.Proofs.YtgbmmcnadmfikaaGreatDoor
