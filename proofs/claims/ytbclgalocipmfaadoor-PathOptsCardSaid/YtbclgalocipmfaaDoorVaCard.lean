/-
  What the cards of layers 13 and 14 share: the listed tables of package utf8.
-/
import Derived.Test.YtbclgalocipmfaaDoorCards
import Derived.Test.YtbclgalocipmfaaDoorTie
import Derived.Deep.DeepHandedRow
import Derived.Lib.LaidU8T
import Derived.LaidSub
import Derived.Test.YtbclgalocipmfaaDoorPlRunes
namespace Go.Proofs.YtbclgalocipmfaaDoor
open Go.ChangeShapes Go.WideShapes Go.ChangeAt Go.RowKit
set_option maxRecDepth 100000
set_option maxRecDepth 100000 in
theorem first_data : (Rows.laid_unicode_utf8_first : DataW Unit) = Lib.firstData := by kernel_rfl
set_option maxRecDepth 100000 in
theorem accept_data : (Rows.laid_unicode_utf8_acceptRanges : DataW Unit) = Lib.acceptData := by kernel_rfl
theorem u8_extra : U8Extra Tryd.prog Tryd.laysValid_ren := ⟨by kernel_rfl, by kernel_rfl, by kernel_rfl, by kernel_rfl, by kernel_rfl, by kernel_rfl, by kernel_rfl⟩
theorem tabs_of_laid {W : World} {L : List (String × DataW Unit)} (h : laidMet Tryd.prog L W) (h1 : ("unicode/utf8.first", Rows.laid_unicode_utf8_first) ∈ L) (h2 : ("unicode/utf8.acceptRanges", Rows.laid_unicode_utf8_acceptRanges) ∈ L) : Tabs W :=
  utf8Tabs_of_readsT (U8Types.of196 Tryd.laysValid) u8_extra (first_data ▸ Lib.laidMet.reads h h1) (accept_data ▸ Lib.laidMet.reads h h2)
theorem tabs_utf {W : World} (h : laidMet Tryd.prog [("unicode/utf8.acceptRanges", Rows.laid_unicode_utf8_acceptRanges), ("unicode/utf8.first", Rows.laid_unicode_utf8_first)] W) : Tabs W :=
  tabs_of_laid h (by simp) (by simp)
/-- The accepted second bytes' ranges, cell by cell. -/
def acceptCells : List Value := [128, 191, 160, 191, 128, 159, 144, 191, 128, 143, 0, 0, 0, 0, 0, 0, 0, 0, 0, 0, 0, 0, 0, 0, 0, 0, 0, 0, 0, 0, 0, 0].map fun (x : Int) => Value.int .u8 x
/-- A block's cells written anew. -/
def relay (cs : Array Value) : Obj → Obj
  | .cells _ t frozen => .cells cs t frozen
  | o => o
/-- A world for the witness: the settled one, the two tables holding what their initialisers lay. -/
noncomputable def utfWorld (os : Os) : World :=
  { World.holding Tryd.prog os ⟨#[], #[], []⟩ with heap := ((World.holding Tryd.prog os ⟨#[], #[], []⟩).heap.modify 0 (relay (Go.Pinned.utf8FirstZ.map fun (x : Nat) => Value.int .u8 (x : Int)).toArray)).modify 1 (relay acceptCells.toArray) }
end Go.Proofs.YtbclgalocipmfaaDoor
