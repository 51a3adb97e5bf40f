/-
  The firmware's diagram: its table in memory, edges as rows of four numbers, and the list of all of them.
-/
import Derived.Test.YtcaipmljlhjlcaaDoorRowK
import Derived.Laws.OwnMore
import Derived.Lib.SliceRun
namespace Go.Proofs.YtcaipmljlhjlcaaDoor
open Go.RowKit
set_option maxRecDepth 100000
set_option linter.unusedVariables false
set_option linter.unusedSimpArgs false
/-- An edge. -/
structure Ed where
  ev : Int
  fr : Int
  to : Int
  rs : Int
deriving DecidableEq
def Ed.vals (s : Ed) : List Value := [.int .i64 s.ev, .int .i64 s.fr, .int .i64 s.to, .int .i64 s.rs]
def edK : RowK Ed 4 where
  vals s := s.vals
  len _ := rfl
  one s u hu := by unfold Ed.vals at hu; simp only [List.mem_cons, List.not_mem_nil, or_false] at hu; rcases hu with rfl | rfl | rfl | rfl <;> rfl
  pos := by decide
/-- A row of the diagram. -/
structure Dr where
  ev : Int
  fr : Int
  to : Int
  lo : Int
  hi : Int
def Dr.vals (d : Dr) : List Value := [.int .i64 d.ev, .int .i64 d.fr, .int .i64 d.to, .int .i64 d.lo, .int .i64 d.hi]
def Ds : List Dr := [⟨1, 0, 1, 0, 0⟩, ⟨2, 1, 2, 0, 0⟩, ⟨3, 1, 0, 2, 9⟩, ⟨4, 0, 0, 0, 0⟩, ⟨4, 1, 0, 0, 0⟩, ⟨4, 2, 0, 0, 0⟩, ⟨5, 2, 3, 0, 0⟩, ⟨6, 3, 0, 1, 1⟩, ⟨7, 3, 0, 8, 8⟩, ⟨8, 2, 0, 5, 5⟩]
def DV : List Value := Ds.flatMap Dr.vals
/-- The edges of a row. -/
def expand (d : Dr) : List Ed := (List.range (d.hi + 1 - d.lo).toNat).map fun (k : Nat) => ⟨d.ev, d.fr, d.to, d.lo + (k : Int)⟩
def Es : List Ed := Ds.flatMap expand
theorem Es_len : Es.length = 17 := by decide
/-- The table lies in its block. -/
def Tb (w : World) : Prop := 0 < w.heap.size ∧ w.rangeAt 0 0 DV
theorem Tb.below {w w' : World} {B : Nat} (h : Tb w) (hb : Below B w w') (hB : 0 < B := by omega) : Tb w' :=
  ⟨Nat.lt_of_lt_of_le h.1 hb.size, fun j u hj => by rw [hb.cell (p := ⟨_, _, _⟩) hB]; exact h.2 j u hj⟩
theorem Tb.up {w w' : World} (h : Tb w) (hb : Below w.heap.size w w') : Tb w' := h.below hb h.1
theorem size_ed : (Tryd.prog.info? 24).map (·.size) = some 4 := by kernel_rfl
theorem size_tab : (Tryd.prog.info? 39).map (·.size) = some 50 := by kernel_rfl
theorem info_ed : (Tryd.prog.info? 24).map (fun i => (i.zero, i.size, i.bytes)) = some (some (.agg #[.int .i64 0, .int .i64 0, .int .i64 0, .int .i64 0]), 4, 32) := by kernel_rfl
theorem Ds_get {i : Nat} (hi : i < 10) : ∃ d, Ds[i]? = some d ∧ (∀ w, (Instr.index 39 (.agg DV.toArray) (.int .i64 (i : Int))).run Tryd.prog w = .ok (.agg #[.int .i64 d.ev, .int .i64 d.fr, .int .i64 d.to, .int .i64 d.lo, .int .i64 d.hi]) w) ∧ 0 ≤ d.lo ∧ d.lo ≤ d.hi ∧ d.hi ≤ 9 ∧ (expand d).length = (d.hi + 1 - d.lo).toNat ∧ ((Ds.take i).flatMap expand).length ≤ 17 := by
  rcases i with _ | _ | _ | _ | _ | _ | _ | _ | _ | _ | i
  all_goals first | exact ⟨_, rfl, fun w => (by kernel_rfl), by decide, by decide, by decide, rfl, by decide⟩ | omega
end Go.Proofs.YtcaipmljlhjlcaaDoor
