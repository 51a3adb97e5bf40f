/-
  Heads of images in memory: whether they are right.
-/
import Derived.Test.YtiieianbmldnbaaDoorImgName
import Derived.Test.YtiieianbmldnbaaDoorMem
import Derived.Test.YtiieianbmldnbaaDoorShaParts
import Derived.Test.YtiieianbmldnbaaDoorCrcOps
import Derived.Laws.Tables
namespace Go.Proofs.YtiieianbmldnbaaDoor
open Go.RowKit
set_option maxRecDepth 100000
set_option maxRecDepth 100000
/-- A head's 35 values. -/
def Hv (v sz : Int) (nm : ByteArray) (d : List UInt8) : List Value := Value.int .u32 v :: Value.int .i64 sz :: Value.string nm :: U8 d
theorem Hv_length {v sz : Int} {nm : ByteArray} {d : List UInt8} (hd : d.length = 32) : (Hv v sz nm d).length = 35 := by simp [Hv, U8_length, hd]
theorem Hv_size {v sz : Int} {nm : ByteArray} {d : List UInt8} (hd : d.length = 32) : (Hv v sz nm d).toArray.size = 35 := by simp [Hv, U8_length, hd]
theorem Hv_one (v sz : Int) (nm : ByteArray) (d : List UInt8) : ∀ x ∈ Hv v sz nm d, x.oneCell' = true := by
  intro x hx
  simp only [Hv, List.mem_cons] at hx
  rcases hx with rfl | rfl | rfl | hx
  · rfl
  · rfl
  · rfl
  · exact U8_one d x hx
/-- A head stands in memory, and may be written over. -/
structure HdAt (w : World) (g : Nat) (v sz : Int) (nm : ByteArray) (d : List UInt8) : Prop where
  len : d.length = 32
  range : w.rangeAt g 0 (Hv v sz nm d)
  there : w.there g 0 35
section
variable {w w' : World} {g : Nat} {v sz : Int} {nm : ByteArray} {d : List UInt8}
theorem HdAt.c0 (h : HdAt w g v sz nm d) : w.cell? ⟨g, 0, none⟩ = some (.int .u32 v) := h.range 0 _ rfl
theorem HdAt.c1 (h : HdAt w g v sz nm d) : w.cell? ⟨g, 1, none⟩ = some (.int .i64 sz) := h.range 1 _ rfl
theorem HdAt.c2 (h : HdAt w g v sz nm d) : w.cell? ⟨g, 2, none⟩ = some (.string nm) := h.range 2 _ rfl
theorem HdAt.dig (h : HdAt w g v sz nm d) : w.rangeAt g 3 (U8 d) := fun j x hj => by
  have := h.range (3 + j) x (by rw [Nat.add_comm]; exact hj)
  rwa [Nat.zero_add] at this
theorem HdAt.lt (h : HdAt w g v sz nm d) : g < w.heap.size := World.block_lt_of_cell? _ _ h.c0
theorem HdAt.below {B : Nat} (h : HdAt w g v sz nm d) (hb : Below B w w') (hg : g < B) : HdAt w' g v sz nm d := ⟨h.len, range_below h.range hb hg, there_below h.there hb hg⟩
end
theorem range_alloc (w : World) (cs : Array Value) (t : TypeId) {vs : List Value} (h : cs.toList = vs) : (w.alloc (.cells cs t)).rangeAt w.heap.size 0 vs := by
  intro j v hj
  subst h
  rw [Nat.zero_add, cell_of_row _ _ _ _ _ _ (heap_alloc_new w _), ← Array.getElem?_toList]; exact hj
/-- A head in a new block. -/
theorem HdAt.new_ (w : World) (t : TypeId) (v sz : Int) (nm : ByteArray) (d : List UInt8) (hd : d.length = 32) : HdAt (w.alloc (.cells (Hv v sz nm d).toArray t)) w.heap.size v sz nm d :=
  ⟨hd, range_alloc w _ t rfl, there_new w _ t (Hv_size hd)⟩
/-- Is a head right? -/
def rightH (sz : Int) (nm : ByteArray) : Bool := named nm.data.toList && (decide (0 ≤ sz) && decide (sz ≤ 1048576))
theorem right_any (w : World) (v sz : Int) (nm : ByteArray) (d : List UInt8) (hd : d.length = 32) :
    Calls Tryd.prog 14 #[.agg (Hv v sz nm d).toArray] w fun e w' => e = .returned (.bool (rightH sz nm)) ∧ Below w.heap.size w w' := by
  obtain ⟨W, hW⟩ : ∃ W, W = w.alloc (.cells (Hv v sz nm d).toArray 25) := ⟨_, rfl⟩
  have hH : HdAt W w.heap.size v sz nm d := hW ▸ HdAt.new_ w 25 v sz nm d hd
  have hB : Below w.heap.size w W := hW ▸ alloc_below w _
  have h1 := hH.c1
  have h2 := hH.c2
  have hcell1 : ∀ w2, Below W.heap.size W w2 → w2.cell? ⟨w.heap.size, 1, none⟩ = some (.int .i64 sz) := fun w2 hb => (hb.cell hH.lt).trans h1
  have hnm := fun w => isName_any w nm
  have Hr := Lib.hid (show rightH sz nm = (named nm.data.toList && (decide (0 ≤ sz) && decide (sz ≤ 1048576))) from rfl)
  generalize named nm.data.toList = nb at hnm Hr
  generalize rightH sz nm = r at Hr ⊢
  clear hH
  go_enter Tryd.func14, Tryd.ntmps14
  go_wp2_with (refine Great.wpList_boxTo rfl 25 _ rfl (some 1) rfl w.heap.size rfl (Hv v sz nm d).toArray rfl ?_; rw [← hW]; clear hW)
  refine (hnm W).mono ?_
  rintro e w2 ⟨rfl, hb2⟩
  have h1' := hcell1 w2 hb2
  have hB2 := hB.trans (hb2.mono hB.size)
  cases nb with
  | false =>
    go_wp2
    go_ret
    exact ⟨by rw [Hr.out]; rfl, hB2⟩
  | true =>
    by_cases hz : 0 ≤ sz
    · go_wp2
      go_ret
      exact ⟨by rw [Hr.out, decide_eq_true hz]; rfl, hB2⟩
    · go_wp2
      go_ret
      exact ⟨by rw [Hr.out, decide_eq_false (show ¬ 0 ≤ sz by omega)]; rfl, hB2⟩
end Go.Proofs.YtiieianbmldnbaaDoor
