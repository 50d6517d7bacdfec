/-
  Package quota's functions, all of them.
-/
import Derived.Test.YtdiocnehejeldaaQuoX
