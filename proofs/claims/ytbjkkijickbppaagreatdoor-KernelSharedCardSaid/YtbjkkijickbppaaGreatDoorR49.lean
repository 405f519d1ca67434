import Derived.Test.YtbjkkijickbppaaGreatDoorR48
import Derived.Test.YtbjkkijickbppaaGreatDoorR25
import Derived.ChangeArms
namespace Go.Proofs.YtbjkkijickbppaaGreatDoor
open Go.ChangeShapes Go.WideShapes Go.RowKit
open Go.Deep (open_slice choose_lt oneCellFields hone_of)
section
variable {H:Type} {enc:TypeId × Value→H} {W:World}
theorem czI:Tryz.prog.cellsOf 3=1:=by kernel_rfl
theorem czIs:Tryz.prog.cellsOf 68=1:=by kernel_rfl
theorem open_intc {fuel:Nat}{v:Value}{x:DataW H × List MemPlace}(hf:DataW.trod enc Tryz.prog W 0 (fun _=>true) true fuel 68 [v]=some x) : ∃r:List Int,Rd W.heap.size 1 v r.length (intC r) W:=by
 obtain⟨L,g1,g2⟩:=open_rdc Tryz.underlying68 czI (by decide) hf
 obtain⟨l,rfl⟩:=of_map (g:=fun z:Int=> [Value.int .i64 z]) (L:=L) fun cs hc=>by
  obtain⟨hl,n,x,hx⟩:=g2 cs hc;obtain⟨z,e,_,_⟩:=DataW.trod_int Tryz.underlying3 hx;exact⟨z,e⟩
 refine⟨l,?_⟩;rw[List.length_map]at g1
 rwa [single_flat]at g1
theorem open_rowc {fuel:Nat}{v:Value}{x:DataW H × List MemPlace}(hf:DataW.trod enc Tryz.prog W 0 (fun _=>true) true fuel 26 [v]=some x) : ∃rows:List RowV,Rd W.heap.size 1 v rows.length (rows.map (·.2)) W∧∀m,m∈rows→Rd W.heap.size 1 m.2 m.1.length (intC m.1) W:=by
 obtain⟨L,g1,g2⟩:=open_rdc Tryz.underlying26 czIs (by decide) hf
 obtain⟨l,rfl⟩:=of_map (g:=fun m : {m:RowV // Rd W.heap.size 1 m.2 m.1.length (intC m.1) W}=> [m.1.2]) (L:=L) fun cs hc=>by
  obtain⟨hl,n,x,hx⟩:=g2 cs hc
  match cs,hl with
  | [c0],_ =>
     obtain⟨r,hr⟩:=open_intc hx;exact⟨⟨(r,c0),hr⟩,rfl⟩
 refine⟨l.map (·.1),?_,fun m hm=> ?_⟩
 · rw[List.length_map]at g1
   rw[List.length_map,List.map_map]
   rwa [single_flat]at g1
 · obtain⟨x,_,rfl⟩:=List.mem_map.1 hm
   exact x.2
end
end Go.Proofs.YtbjkkijickbppaaGreatDoor
