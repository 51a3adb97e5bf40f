import Derived.Shelf.LaySoft
import Derived.Ground.NamesProg
import Derived.Shelf.Lay
import Derived.Shelf.Unicode.ValidAny
import Derived.Shelf.LaysM
import Derived.Shelf.Strconv.Clone
import Derived.Test.YthnbcilpallhjaaDoorProg
namespace Go.Proofs
open Go.Shelf
set_option maxRecDepth 100000
shelf_try shelf_lay Lays.n196 Nm 196 at Tryd as Tryd.laysValid
shelf_try shelf_lay LaysM.n316 Nm 316 at Tryd as Tryd.laysM316
shelf_tried
end Go.Proofs
