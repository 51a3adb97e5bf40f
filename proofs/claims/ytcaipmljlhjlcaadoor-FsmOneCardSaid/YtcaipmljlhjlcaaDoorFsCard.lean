/-
  What the cards of layer 22 share: the listed table gives the diagram's rows.
-/
import Derived.Test.YtcaipmljlhjlcaaDoorCards
import Derived.Test.YtcaipmljlhjlcaaDoorTie
import Derived.Deep.DeepHandedRow
import Derived.Lib.LaidU8
import Derived.Test.YtcaipmljlhjlcaaDoorFsBase
namespace Go.Proofs.YtcaipmljlhjlcaaDoor
open Go.ChangeShapes Go.WideShapes Go.ChangeAt Go.RowKit
def drK : RowK Dr 5 where
  vals s := s.vals
  len _ := rfl
  one s u hu := by unfold Dr.vals at hu; simp only [List.mem_cons, List.not_mem_nil, or_false] at hu; rcases hu with rfl | rfl | rfl | rfl | rfl <;> rfl
  pos := by decide
def Dr.zs (d : Dr) : List Int := [d.ev, d.fr, d.to, d.lo, d.hi]
theorem Dr.vals_zs (d : Dr) : d.vals = d.zs.map fun z => Value.int .i64 z := rfl
set_option maxRecDepth 100000 in
theorem diagram_data : (Rows.laid_outpost_fsm_diagram : DataW Unit) = .agg (Ds.map fun d => .agg (d.zs.map fun z => .lit (.int .i64 z))) := by kernel_rfl
theorem dg_named : Tryd.prog.globalNamed "outpost/fsm.diagram" = some 0 := by kernel_rfl
theorem dg_type : (Tryd.prog.globals[0]?).map (·.type) = some 39 := by kernel_rfl
theorem dg_cells : Tryd.prog.cellsOf 38 = 5 := by kernel_rfl
theorem dg_cell : Tryd.prog.cellsOf 3 = 1 := by kernel_rfl
theorem dg_under : ∃ fs : Array Field, Tryd.prog.underlying 38 = some (.struct fs) ∧ (∀ (i : Nat) (f : Field), fs[i]? = some f → Tryd.prog.underlying f.type = some (.int .i64) ∧ f.offset = i ∧ Tryd.prog.cellsOf f.type = 1) ∧ fs.size = 5 := by
  refine ⟨_, Tryd.underlying38, fun i f h => ?_, rfl⟩
  match i, h with
  | 0, h => simp at h; subst h; exact ⟨Tryd.underlying3, rfl, dg_cell⟩
  | 1, h => simp at h; subst h; exact ⟨Tryd.underlying3, rfl, dg_cell⟩
  | 2, h => simp at h; subst h; exact ⟨Tryd.underlying3, rfl, dg_cell⟩
  | 3, h => simp at h; subst h; exact ⟨Tryd.underlying3, rfl, dg_cell⟩
  | 4, h => simp at h; subst h; exact ⟨Tryd.underlying3, rfl, dg_cell⟩
  | j + 5, h => simp at h
theorem ks_of_laid {W : World} (h : laidMet Tryd.prog [("outpost/fsm.diagram", Rows.laid_outpost_fsm_diagram)] W) : Tb W := by
  rw [diagram_data] at h
  obtain ⟨g, t, cs, fuel, p, hg, hty, hvar, hd⟩ := Lib.laidMet.reads h (List.mem_singleton.2 rfl)
  obtain rfl := Option.some.inj (dg_named.symm.trans hg)
  obtain rfl := Option.some.inj (dg_type.symm.trans hty)
  obtain ⟨fs, hfs, hff, hfz⟩ := dg_under
  have hc : ∀ (i : Nat) (d : Dr) (j : Nat) (u : Value), Ds[i]? = some d → d.vals[j]? = some u → W.cell? ⟨0, i * 5 + j, none⟩ = some u := by
    intro i d j u hi hj
    have hil : i < 10 := (List.getElem?_eq_some_iff.1 hi).1
    have hjl : j < 5 := (List.getElem?_eq_some_iff.1 hj).1
    obtain ⟨fuel', d', q, hdi, he⟩ := Lib.array_elem Tryd.underlying39 hd i hil
    rw [List.getElem?_map, hi] at hdi
    obtain rfl := Option.some.inj hdi
    rw [dg_cells] at he
    have hcs := Lib.ints_of_struct hfs hff (by rw [dg_cells, hfz]) he
    have e0 := congrArg (·[j]?) hcs
    simp only [List.getElem?_take, List.getElem?_drop, if_pos hjl] at e0
    rw [World.var?_cell dg_named hvar (i * 5 + j), ← Array.getElem?_toList, e0]
    exact hj
  refine ⟨World.block_lt_of_cell? W ⟨0, 0 * 5 + 0, none⟩ (hc 0 _ 0 _ rfl rfl), fun j u hj => ?_⟩
  have hl : j < 50 := by
    have := (List.getElem?_eq_some_iff.1 hj).1
    exact this
  have hmod : j / 5 * 5 + j % 5 = j := by omega
  obtain ⟨d, hd'⟩ : ∃ d, Ds[j / 5]? = some d := ⟨_, List.getElem?_eq_getElem (show j / 5 < 10 by omega)⟩
  obtain ⟨v, hv⟩ : ∃ v, d.vals[j % 5]? = some v := ⟨_, List.getElem?_eq_getElem (show j % 5 < 5 by omega)⟩
  have h2 := drK.all_get Ds (j / 5) d (j % 5) v hd' hv
  rw [hmod] at h2
  have h3 : some u = some v := hj.symm.trans h2
  obtain rfl := Option.some.inj h3
  have := hc _ d _ _ hd' hv
  rw [hmod] at this
  rw [Nat.zero_add]; exact this
/-- A block's cells written anew. -/
def relay (cs : Array Value) : Obj → Obj
  | .cells _ t frozen => .cells cs t frozen
  | o => o
/-- A world for the witness: the settled one, the diagram holding what its initialiser lays. -/
noncomputable def fsmWorld (os : Os) : World :=
  { World.holding Tryd.prog os ⟨#[], #[], []⟩ with heap := (World.holding Tryd.prog os ⟨#[], #[], []⟩).heap.modify 0 (relay DV.toArray) }
end Go.Proofs.YtcaipmljlhjlcaaDoor
