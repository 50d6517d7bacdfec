/-
  Package disk: Do.
-/
import Derived.Test.YtgjejofdmfpdjaaDskG
import Derived.Test.YtgjejofdmfpdjaaDskI
namespace Go.Proofs.Ytgjejofdmfpdjaa
open Go.RowKit
namespace Dsk

end Dsk
end Go.Proofs.Ytgjejofdmfpdjaa
