/-
  The document's own oracle: Do.
-/
import Derived.Test.YtgdpamfphjehaaaIRefF
namespace Go.Proofs.Ytgdpamfphjehaaa.Ref3
open Go.RowKit
open Ideal Ida

end Go.Proofs.Ytgdpamfphjehaaa.Ref3
