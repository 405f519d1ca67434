/-
  The program's calls of layer 10, as the statements take them.
-/
import Derived.Test.YtbcmhjgjcknfmaaHdlPrgE
import Derived.Test.YtbcmhjgjcknfmaaHdlPrgF
import Derived.Test.YtbcmhjgjcknfmaaHdlPrgG
import Derived.Test.YtbcmhjgjcknfmaaLaw10K
namespace Go.Proofs.Ytbcmhjgjcknfmaa
open Go.RowKit Go.Shelf

theorem pc : PH := PH0.pc {
  new := fun X n w hX => pnew_c X n w hX
  opn := fun X t p x ad af cap capf w hX hT hz hr => popen_c X t p x ad af cap capf w hX hT hz hr
  get := fun _ t p fd ad af cap capf w _ hT _ hr => pgetH_c t ad af cap capf w hT p fd hr
  set := fun X t i x ad af cap capf w hX hT hz hr => pset_c X t i x ad af cap capf w hX hT hz hr
  dup := fun X t p fd ad af cap capf w hX hT hz hr => pdup_c X t p fd ad af cap capf w hX hT hz hr
  close := fun X t p fd ad af cap capf w hX hT hz hr => pclose_c X t p fd ad af cap capf w hX hT hz hr
  count := fun _ t p ad af cap capf w _ hT hz hr => pcount_c t ad af cap capf w hT p hz hr
  right := fun _ t ad af cap capf w _ hT hz => pright_c t ad af cap capf w hT hz }
end Go.Proofs.Ytbcmhjgjcknfmaa
