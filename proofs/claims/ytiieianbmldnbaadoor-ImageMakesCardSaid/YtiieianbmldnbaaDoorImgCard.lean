/-
  What the cards of layer 6 share: the listed tables give the rounds' words.
-/
import Derived.Test.YtiieianbmldnbaaDoorCards
import Derived.Test.YtiieianbmldnbaaDoorTie
import Derived.Deep.DeepHandedRow
import Derived.Lib.LaidTab
import Derived.LaidSub
import Derived.Test.YtiieianbmldnbaaDoorImgAlive
namespace Go.Proofs.YtiieianbmldnbaaDoor
open Go.ChangeShapes Go.WideShapes Go.ChangeAt Go.RowKit
set_option maxRecDepth 100000
theorem ownKnob_none : ownKnob Tryd.prog.godebug = none := by kernel_rfl
theorem laidOut_yes : laidOutB Tryd.prog = true := by kernel_rfl
def ksInts : List Int := KS.map fun x => (x.toNat : Int)
theorem gRounds : Tryd.prog.globalNamed "outpost/sha.rounds" = some 1 := by kernel_rfl
theorem gRoundsType : (Tryd.prog.globals[1]?).map (·.type) = some 79 := by kernel_rfl
theorem cells52 : Tryd.prog.cellsOf 79 = 64 := by kernel_rfl
theorem cells50 : Tryd.prog.cellsOf 22 = 1 := by kernel_rfl
set_option maxRecDepth 100000 in
theorem rounds_data : (Rows.laid_outpost_sha_rounds : DataW Unit) = Lib.tabData .u32 ksInts := by kernel_rfl
theorem ks_of_tab {W : World} (h : Lib.TabIs Tryd.prog W "outpost/sha.rounds" .u32 ksInts) : Ks W := by
  have hc : ∀ i, i < 64 → W.cell? ⟨1, i, none⟩ = some (.int .u32 (ksInts.getD i 0)) := fun i hi => h.cell gRounds i (by show i < ksInts.length; rw [show ksInts.length = 64 from rfl]; exact hi)
  refine ⟨World.block_lt_of_cell? W ⟨1, 0, none⟩ (hc 0 (by decide)), fun j v hj => ?_⟩
  rw [W32_get] at hj
  obtain ⟨x, hx, rfl⟩ := Option.map_eq_some_iff.1 hj
  have hlt : j < 64 := (List.getElem?_eq_some_iff.1 hx).1
  rw [Nat.zero_add, hc j hlt]
  unfold ksInts
  rw [List.getD_eq_getElem?_getD, List.getElem?_map, hx]
  rfl
theorem ks_of_laid {W : World} (h : laidMet Tryd.prog [("outpost/sha.rounds", Rows.laid_outpost_sha_rounds)] W) : Ks W := by
  rw [rounds_data] at h
  exact ks_of_tab (Lib.tabIs_of_head (rest := []) gRounds gRoundsType Tryd.underlying79 Tryd.underlying22 cells50 cells52 h)
theorem ks_of_img {W : World} (h : laidMet Tryd.prog [("outpost/sha.rounds", Rows.laid_outpost_sha_rounds), ("unicode/utf8.acceptRanges", Rows.laid_unicode_utf8_acceptRanges), ("unicode/utf8.first", Rows.laid_unicode_utf8_first)] W) : Ks W :=
  ks_of_laid (laidMet.filter (fun x => x.1 == "outpost/sha.rounds") h)
/-- The accepted second bytes' ranges, cell by cell. -/
def acceptCells : List Value := [128, 191, 160, 191, 128, 159, 144, 191, 128, 143, 0, 0, 0, 0, 0, 0, 0, 0, 0, 0, 0, 0, 0, 0, 0, 0, 0, 0, 0, 0, 0, 0].map fun (x : Int) => Value.int .u8 x
/-- A block's cells written anew. -/
def relay (cs : Array Value) : Obj → Obj
  | .cells _ t frozen => .cells cs t frozen
  | o => o
/-- A world for the witness: the settled one, the three tables holding what their initialisers lay. -/
noncomputable def imgWorld (os : Os) : World :=
  { World.holding Tryd.prog os ⟨#[], #[], []⟩ with heap := (((World.holding Tryd.prog os ⟨#[], #[], []⟩).heap.modify 1 (relay (W32 KS).toArray)).modify 2 (relay (Go.Pinned.utf8FirstZ.map fun (x : Nat) => Value.int .u8 (x : Int)).toArray)).modify 3 (relay acceptCells.toArray) }
end Go.Proofs.YtiieianbmldnbaaDoor
