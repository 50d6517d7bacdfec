/-
  Package slot: Begin, Save.
-/
import Derived.Test.YtgjejofdmfpdjaaSltF
import Derived.Test.YtgjejofdmfpdjaaDskB
import Derived.Test.YtgjejofdmfpdjaaDskC
namespace Go.Proofs.Ytgjejofdmfpdjaa
open Go.RowKit
namespace Slt
open Dsk

end Slt
end Go.Proofs.Ytgjejofdmfpdjaa
