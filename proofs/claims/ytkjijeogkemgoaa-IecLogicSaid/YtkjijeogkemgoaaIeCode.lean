/-
  The landed code keeps what is asked of it. Conditions: none.
-/
import Derived.Test.YtkjijeogkemgoaaIeDo
import Derived.Test.YtkjijeogkemgoaaIeArea
namespace Go.Proofs.Ytkjijeogkemgoaa.Ic

theorem the_code : Code plainB where
  size := fun _ k w _ _ _ => cSize_any k w
  name := fun _ k w _ _ _ => cName_any k w
  named := fun _ s w _ _ _ => cNamed_any s w
  is_ := fun _ k v w _ _ _ hv => cIs_any k v w hv.1 hv.2
  wrap := fun _ k v w _ _ _ hv => cWrap_any k v w hv.1 hv.2
  may := fun _ op k w _ _ _ _ => cMay_any op k w
  do_ := fun _ op k a b w _ _ _ _ ha hb => cDo_any op k a b w ha.1 ha.2 hb.1 hb.2
  not_ := fun _ k v w _ _ _ hv => cNot_any k v w hv.1 hv.2
  get := fun _ s at_ k w _ _ hs ha _ => cGet_any s at_ k w hs ha.1 ha.2
  put := fun _ g cap l at_ k v w _ _ _ _ hr hl _ _ ha _ hv => cPut_any g cap l at_ k v w hr hl ha.1 ha.2 hv.1 hv.2

end Go.Proofs.Ytkjijeogkemgoaa.Ic
