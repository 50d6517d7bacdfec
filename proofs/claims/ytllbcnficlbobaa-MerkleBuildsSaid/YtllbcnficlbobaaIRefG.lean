/-
  The document's own oracle: Do.
-/
import Derived.Test.YtllbcnficlbobaaIRefF
namespace Go.Proofs.Ytllbcnficlbobaa.Ref3
open Go.RowKit
open Ideal Ida

end Go.Proofs.Ytllbcnficlbobaa.Ref3
