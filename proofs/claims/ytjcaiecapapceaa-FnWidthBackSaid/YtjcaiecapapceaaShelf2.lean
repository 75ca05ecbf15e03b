/-
  strings.Builder at this dump: the contracts of the library laid by hand where the command does not lay them.
-/
import Derived.Shelf.Lays
import Derived.Shelf.Strings.Builder1
import Derived.Shelf.Strings.BuilderF
import Derived.Shelf.Strings.BuilderK
import Derived.Test.YtjcaiecapapceaaShelf
namespace Go.Proofs
open Go.Shelf
end Go.Proofs
