/-
  The shelf at this program: what Tryz.strings_Repeat leans on.
-/
import Derived.Shelf.Strings.Builder1
import Derived.Shelf.Strings.Builder2
import Derived.Shelf.Small.Strs
import Derived.Shelf.Strings.BuilderF
import Derived.Shelf.Strings.BuilderK
import Derived.Shelf.LaysM
import Derived.Shelf.Strconv.Clone
import Derived.Shelf.Strings.Search1
import Derived.Shelf.Strings.Prefix
import Derived.Shelf.Bits.Mul64
import Derived.Shelf.Strings.Repeat
import Derived.Test.YtjcaiecapapceaaGreatProg
import Derived.Test.YtjcaiecapapceaaGreatShelf
import Derived.Test.YtjcaiecapapceaaGreatShelf2
namespace Go.Proofs
open Go.Shelf

end Go.Proofs
