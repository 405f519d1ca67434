import Derived.Test.YtkoaicabkgaglaaGreatDoorProg
import Derived.Test.YtkoaicabkgaglaaGreatDoorR10
namespace Go.Proofs.YtkoaicabkgaglaaGreatDoor
open Go.Eng
def ehd (t:Nat):Value:= .pointer (some ⟨15,t,none⟩)
def ert (t:Nat):Value:= .iface 217 (.agg ⟨[ehd t]⟩)
def etiOf (t kd:Nat)(el:Option Nat):TI:=⟨t,ehd t,ert t,kd,el⟩
def exsL:List (FuncId × XK):= [(105, .valueOf),(106, .typ),(107, .isNil),(150, .typeOf),(151, .elem),(152, .set)]
def ecf:Cfg:= {
 nb:=15+1
 xs:=xsOf exsL
 tis:= [etiOf 231 25 none,etiOf 150 2 none,etiOf 155 22 (some 150)]
 mms:= [⟨ert 155, "Kind",[], .int .u8 22⟩,⟨ert 155, "Elem",[],ert 150⟩,⟨ert 150, "Kind",[], .int .u8 2⟩,⟨ert 150, "Implements",[ert 139], .bool true⟩,⟨ert 231, "AssignableTo",[ert 150], .bool false⟩,⟨ert 150, "AssignableTo",[ert 150], .bool true⟩]}
theorem emm_ok : ∀m∈ecf.mms,MmOk Tryz.prog ecf.nb m:=by
 intro m hm;simp only[ecf,List.mem_cons,List.not_mem_nil,or_false]at hm;rcases hm with rfl | rfl | rfl | rfl | rfl | rfl
 all_goals exact⟨by kernel_rfl,by kernel_rfl,by kernel_rfl,by kernel_rfl⟩
theorem eti_ok : ∀x∈ecf.tis,TIOk Tryz.prog ecf.nb x:=by
 intro m hm;simp only[ecf,List.mem_cons,List.not_mem_nil,or_false]at hm;rcases hm with rfl | rfl | rfl
 all_goals exact⟨by kernel_rfl,by kernel_rfl,by kernel_rfl,by kernel_rfl,by kernel_rfl,by kernel_rfl,by kernel_rfl⟩
theorem exok:XOk Tryz.prog ecf:=by
 refine⟨fun f k h=>xsOf_ok (l:=exsL) ?_ h,eti_ok,emm_ok⟩;intro p hp;simp only[exsL,List.mem_cons,List.not_mem_nil,or_false]at hp;rcases hp with rfl | rfl | rfl | rfl | rfl | rfl
 · exact xs_ok (fn:=Tryz.f105) (by kernel_rfl) (by kernel_rfl) (by kernel_rfl) (by kernel_rfl) (by kernel_rfl)
 · exact xs_ok (fn:=Tryz.f106) (by kernel_rfl) (by kernel_rfl) (by kernel_rfl) (by kernel_rfl) (by kernel_rfl)
 · exact xs_ok (fn:=Tryz.f107) (by kernel_rfl) (by kernel_rfl) (by kernel_rfl) (by kernel_rfl) (by kernel_rfl)
 · exact xs_ok (fn:=Tryz.f150) (by kernel_rfl) (by kernel_rfl) (by kernel_rfl) (by kernel_rfl) (by kernel_rfl)
 · exact xs_ok (fn:=Tryz.f151) (by kernel_rfl) (by kernel_rfl) (by kernel_rfl) (by kernel_rfl) (by kernel_rfl)
 · exact xs_ok (fn:=Tryz.f152) (by kernel_rfl) (by kernel_rfl) (by kernel_rfl) (by kernel_rfl) (by kernel_rfl)
theorem efollow:Tryz.prog.follows .mixedOrders=true:=by kernel_rfl
def eerrV:Value:= .iface 217 (.agg ⟨[ehd 139]⟩)
end Go.Proofs.YtkoaicabkgaglaaGreatDoor
