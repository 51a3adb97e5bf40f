/-
  What the card of ValueOfs needs beside: the listed powers of ten, and a world that holds the five tables.
-/
import Derived.Test.YtbclgalocipmfaaDoorVaCard
import Derived.Test.YtbclgalocipmfaaDoorPlWrite
import Derived.Lib.LaidTab
namespace Go.Proofs.YtbclgalocipmfaaDoor
open Go.ChangeShapes Go.WideShapes Go.ChangeAt Go.RowKit
set_option maxRecDepth 100000
set_option maxRecDepth 100000 in
theorem pow_data : (Rows.laid_internal_strconv_uint64pow10 : DataW Unit) = Lib.tabData .u64 Lib.pow10Tab := by kernel_rfl
theorem tabD_of_laid {W : World} {L : List (String × DataW Unit)} (h : laidMet Tryd.prog L W) (h1 : ("internal/strconv.uint64pow10", Rows.laid_internal_strconv_uint64pow10) ∈ L) : TabD W := by
  obtain ⟨g, t, cs, fuel, p, hg, hty, hvar, hd⟩ := (pow_data ▸ Lib.laidMet.reads h h1 : Lib.VarReads Tryd.prog W "internal/strconv.uint64pow10" (Lib.tabData .u64 Lib.pow10Tab))
  obtain rfl := Option.some.inj (pow_named.symm.trans hg)
  obtain rfl := Option.some.inj ((show (Tryd.prog.globals[3]?).map (·.type) = some 187 by kernel_rfl).symm.trans hty)
  unfold TabD Lib.TabIs
  rw [hvar, ← Lib.cells_of_tab Tryd.underlying187 Tryd.underlying120 (by kernel_rfl) (by kernel_rfl) hd]
theorem tabs_utf5 {W : World} (h : laidMet Tryd.prog [("math/bits.deBruijn32tab", Rows.laid_math_bits_deBruijn32tab), ("math/bits.deBruijn64tab", Rows.laid_math_bits_deBruijn64tab), ("internal/strconv.uint64pow10", Rows.laid_internal_strconv_uint64pow10), ("unicode/utf8.acceptRanges", Rows.laid_unicode_utf8_acceptRanges), ("unicode/utf8.first", Rows.laid_unicode_utf8_first)] W) : Tabs W ∧ TabD W :=
  ⟨tabs_of_laid h (by simp) (by simp), tabD_of_laid h (by simp)⟩
def litV : DataW Unit → Value | .lit (.int k z) => .int k z | _ => undef
def cellsD : DataW Unit → List Value | .agg xs => xs.map litV | _ => []
/-- A world for the witness that holds the five tables. -/
noncomputable def utfWorld5 (os : Os) : World :=
  { utfWorld os with heap := (((utfWorld os).heap.modify 3 (relay (cellsD Rows.laid_internal_strconv_uint64pow10).toArray)).modify 6 (relay (cellsD Rows.laid_math_bits_deBruijn32tab).toArray)).modify 7 (relay (cellsD Rows.laid_math_bits_deBruijn64tab).toArray) }
end Go.Proofs.YtbclgalocipmfaaDoor
