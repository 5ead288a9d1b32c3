/-
  Nothing of the library is laid here; its plain words alone.
-/
import Derived.Shelf.Strings.Trim
import Derived.Shelf.Strings.Prefix
import Derived.Shelf.Pu.ParseUintPublic10
import Derived.Test.YtlkocepoohhglaaDoorProg
namespace Go.Proofs.YtlkocepoohhglaaDoor
end Go.Proofs.YtlkocepoohhglaaDoor
