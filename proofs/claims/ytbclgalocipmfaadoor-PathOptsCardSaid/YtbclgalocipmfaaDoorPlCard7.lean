/-
  What the cards of layer 13 need beside: the two listed errors of package strconv, and a world that holds all seven.
-/
import Derived.Test.YtbclgalocipmfaaDoorVaCard5
import Derived.Test.YtbclgalocipmfaaDoorPlAlive
import Derived.LaidLaws
namespace Go.Proofs.YtbclgalocipmfaaDoor
open Go.ChangeShapes Go.WideShapes Go.ChangeAt Go.RowKit
set_option maxRecDepth 100000
set_option maxRecDepth 100000 in
theorem iface_var {W : World} {nm x : String} {d : DataW Unit} {g : Nat} (h : Lib.VarReads Tryd.prog W nm (.iface x d)) (hn : Tryd.prog.globalNamed nm = some g) (ht : (Tryd.prog.globals[g]?).map (·.type) = some 93) : ∃ tp p, W.var? Tryd.prog nm = some #[.iface tp p] := by
  obtain ⟨g', t, cs, fuel, p, hg, hty, hvar, hd⟩ := h
  obtain rfl := Option.some.inj (hn.symm.trans hg)
  obtain rfl := Option.some.inj (ht.symm.trans hty)
  obtain ⟨f1, u, v, hcs, _, _⟩ := iface_of_trod Tryd.underlying93 hd
  refine ⟨u, v, ?_⟩
  rw [hvar]
  congr 1
  exact Array.toList_inj.1 hcs
set_option maxRecDepth 100000 in
theorem tabE_of_laid {W : World} {L : List (String × DataW Unit)} (h : laidMet Tryd.prog L W) (h1 : ("strconv.ErrSyntax", Rows.laid_strconv_ErrSyntax) ∈ L) (h2 : ("strconv.ErrRange", Rows.laid_strconv_ErrRange) ∈ L) : TabE W :=
  ⟨iface_var (Lib.laidMet.reads h h1) errs_named.1 (by kernel_rfl), iface_var (Lib.laidMet.reads h h2) errs_named.2 (by kernel_rfl)⟩
theorem tabs_utf7 {W : World} (h : laidMet Tryd.prog [("math/bits.deBruijn32tab", Rows.laid_math_bits_deBruijn32tab), ("math/bits.deBruijn64tab", Rows.laid_math_bits_deBruijn64tab), ("internal/strconv.uint64pow10", Rows.laid_internal_strconv_uint64pow10), ("unicode/utf8.acceptRanges", Rows.laid_unicode_utf8_acceptRanges), ("strconv.ErrRange", Rows.laid_strconv_ErrRange), ("strconv.ErrSyntax", Rows.laid_strconv_ErrSyntax), ("unicode/utf8.first", Rows.laid_unicode_utf8_first)] W) : Tab7 W :=
  ⟨tabs_of_laid h (by simp) (by simp), tabD_of_laid h (by simp), tabE_of_laid h (by simp) (by simp)⟩
def errText : DataW Unit → List UInt8 | .iface _ (.ptr (.agg [.lit (.string t)])) => t | _ => []
/-- A world for the witness: the tables, and two errors with their texts. -/
noncomputable def utfWorld7 (os : Os) : World :=
  { utfWorld5 os with heap := (((utfWorld5 os).heap.modify 4 (relay #[.iface 196 (.pointer (some ⟨(utfWorld5 os).heap.size, 0, none⟩))])).modify 5 (relay #[.iface 196 (.pointer (some ⟨(utfWorld5 os).heap.size + 1, 0, none⟩))])) ++ #[.cells #[.string ⟨(errText Rows.laid_strconv_ErrSyntax).toArray⟩] 198, .cells #[.string ⟨(errText Rows.laid_strconv_ErrRange).toArray⟩] 198] }
end Go.Proofs.YtbclgalocipmfaaDoor
