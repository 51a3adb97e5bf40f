/-
  What ImageMakes' card needs besides: both tables of the rounds' words.
-/
import Derived.Test.YtiieianbmldnbaaDoorImgCard
namespace Go.Proofs.YtiieianbmldnbaaDoor
open Go.ChangeShapes Go.WideShapes Go.ChangeAt Go.RowKit
set_option maxRecDepth 100000
theorem gWords : Tryd.prog.globalNamed "outpost/outpostref01.words" = some 0 := by kernel_rfl
theorem gWordsType : (Tryd.prog.globals[0]?).map (·.type) = some 79 := by kernel_rfl
set_option maxRecDepth 100000 in
theorem words_data : (Rows.laid_outpost_outpostref01_words : DataW Unit) = Lib.tabData .u32 ksInts := by kernel_rfl
theorem ws_of_tab {W : World} (h : Lib.TabIs Tryd.prog W "outpost/outpostref01.words" .u32 ksInts) : W.rangeAt 0 0 (W32 KS) := by
  have hc : ∀ i, i < 64 → W.cell? ⟨0, i, none⟩ = some (.int .u32 (ksInts.getD i 0)) := fun i hi => h.cell gWords i (by show i < ksInts.length; rw [show ksInts.length = 64 from rfl]; exact hi)
  intro j v hj
  rw [W32_get] at hj
  obtain ⟨x, hx, rfl⟩ := Option.map_eq_some_iff.1 hj
  have hlt : j < 64 := (List.getElem?_eq_some_iff.1 hx).1
  rw [Nat.zero_add, hc j hlt]
  unfold ksInts
  rw [List.getD_eq_getElem?_getD, List.getElem?_map, hx]
  rfl
theorem ks2_of_img {W : World} (h : laidMet Tryd.prog [("outpost/outpostref01.words", Rows.laid_outpost_outpostref01_words), ("outpost/sha.rounds", Rows.laid_outpost_sha_rounds), ("unicode/utf8.acceptRanges", Rows.laid_unicode_utf8_acceptRanges), ("unicode/utf8.first", Rows.laid_unicode_utf8_first)] W) : W.rangeAt 0 0 (W32 KS) ∧ Ks W := by
  have h2 : laidMet Tryd.prog [("outpost/sha.rounds", Rows.laid_outpost_sha_rounds)] W := laidMet.filter (fun x => x.1 == "outpost/sha.rounds") h
  have h1 : laidMet Tryd.prog [("outpost/outpostref01.words", Rows.laid_outpost_outpostref01_words)] W := laidMet.filter (fun x => x.1 == "outpost/outpostref01.words") h
  rw [words_data] at h1
  exact ⟨ws_of_tab (Lib.tabIs_of_head (rest := []) gWords gWordsType Tryd.underlying79 Tryd.underlying22 cells50 cells52 h1), ks_of_laid h2⟩
/-- A world for the witness: all four tables holding what their initialisers lay. -/
noncomputable def imgWorld2 (os : Os) : World :=
  { imgWorld os with heap := (imgWorld os).heap.modify 0 (relay (W32 KS).toArray) }
end Go.Proofs.YtiieianbmldnbaaDoor
