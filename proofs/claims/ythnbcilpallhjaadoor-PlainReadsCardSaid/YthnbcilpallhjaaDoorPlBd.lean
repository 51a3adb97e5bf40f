/-
  The strings.Builder of this program: a sign, a text put behind what it has.
-/
import Derived.Test.YthnbcilpallhjaaDoorPlBase
import Derived.Test.YthnbcilpallhjaaDoorRowK
import Derived.Lib.AppendStr
import Derived.Test.YthnbcilpallhjaaDoorShelfB
namespace Go.Proofs.YthnbcilpallhjaaDoor
open Go.RowKit
set_option maxRecDepth 100000
set_option maxRecDepth 100000
set_option linter.unusedVariables false
theorem info_bd : ∃ i, Tryd.prog.info? 91 = some i ∧ i.size = 2 := by
  have h : (Tryd.prog.info? 91).map (·.size) = some 2 := by kernel_rfl
  exact Option.map_eq_some_iff.1 h
set_option maxHeartbeats 2000000 in
theorem bdCheck_f (B b : Nat) (bs : List Value) (w : World) (h : Lib.IsBuilder 91 5 B b bs w) :
    Calls Tryd.prog 79 #[.pointer (some ⟨b, 0, none⟩)] w fun e w' => e = .returned (.tuple #[]) ∧ Lib.BuilderAt 91 5 B b (.pointer (some ⟨b, 0, none⟩)) bs w' ∧ Below B w w' := by
  obtain ⟨i, hi, his⟩ := info_bd
  rcases h with h | h
  · have c0 := h.cell0
    have f0 := h.frozen0
    have hto := Lib.run_to_unsafe (P := Tryd.prog) w ⟨b, 0, none⟩ Tryd.underlying89 Tryd.underlying156 hi (by rw [his]; decide) h.shape (Nat.zero_lt_succ 1)
    have hfrom := Lib.run_from_unsafe (P := Tryd.prog) w ⟨b, 0, none⟩ Tryd.underlying156 Tryd.underlying89 hi h.shape (by kernel_rfl)
    have HH := Lib.hid h
    clear h
    go_enter Tryd.func79, Tryd.ntmps79
    go_wp2
    rw [run_callFunc_extern Tryd.func110 (by kernel_rfl) (by kernel_rfl) (by kernel_rfl) (e := Extern.AbiNoEscape.same) (by kernel_rfl), show (Extern.AbiNoEscape.same #[.pointer (some ⟨b, 0, none⟩)]).run Tryd.prog w = .ok (.pointer (some ⟨b, 0, none⟩)) w from rfl]
    dsimp only [Result.andThen]
    rw [Oper.upon_value]
    go_wp2
    go_end0
    exact ⟨rfl, HH.out.used _, (Below.refl B w).setCell (p := ⟨b, 0, none⟩) HH.out.1 _⟩
  · have hne := Lib.run_neq_ptr_same (P := Tryd.prog) (te := 91) w ⟨b, 0, none⟩ Tryd.underlying89 hi
    have c0 := h.cell0
    have HH := Lib.hid h
    clear h
    go_enter Tryd.func79, Tryd.ntmps79
    go_wp2
    go_end0
    exact ⟨rfl, HH.out, Below.refl B _⟩
theorem cells_u8 (l : List UInt8) : Lib.byteCells l = U8 l := by unfold Lib.byteCells U8; exact List.map_congr_left fun _ _ => rfl
/-- A builder that has these bytes. -/
def Bd (B b : Nat) (l : List UInt8) (w : World) : Prop := Lib.IsBuilder 91 5 B b (U8 l) w
theorem Bd.new_ (w : World) : Bd w.heap.size w.heap.size [] (w.alloc (.cells #[.pointer none, .slice none 0 0] 91)) := Lib.fresh_isBuilder _ _ w
theorem Bd.lt {B b : Nat} {l : List UInt8} {w : World} (h : Bd B b l w) : b < w.heap.size := by
  rcases h with h | h <;> exact h.lt
theorem Bd.below {B b : Nat} {l : List UInt8} {w w' : World} (h : Bd B b l w) (hb : Below w.heap.size w w') : Bd B b l w' := by
  rcases h with h | h
  · obtain ⟨h1, v, h2, h3, h4⟩ := h
    exact .inl ⟨h1, v, (hb.block b (Array.getElem?_eq_some_iff.1 h2).1).trans h2, rk_below h3 hb, h4⟩
  · obtain ⟨h1, v, h2, h3, h4⟩ := h
    exact .inr ⟨h1, v, (hb.block b (Array.getElem?_eq_some_iff.1 h2).1).trans h2, rk_below h3 hb, h4⟩
set_option maxHeartbeats 4000000 in
theorem bdByte_f (B b : Nat) (l : List UInt8) (u : UInt8) (w : World) (h : Bd B b l w) (hl : l.length ≤ 1000000) (hB : B ≤ w.heap.size) :
    Calls Tryd.prog 87 #[.pointer (some ⟨b, 0, none⟩), .int .u8 (u.toNat : Int)] w fun e w' => e = .returned .nilIface ∧ Bd B b (l ++ [u]) w' ∧ Below B w w' := by
  obtain ⟨i0, hi0, hz0, hz1, hz2⟩ := info_parts info_u8
  have HC := Lib.hid (bdCheck_f B b _ w h)
  clear h
  obtain ⟨q, hq⟩ : ∃ q, (u.toNat : Int) = q := ⟨_, rfl⟩
  rw [hq]
  have HU := Lib.hid hq
  clear hq
  go_enter Tryd.func87, Tryd.ntmps87
  go_wp2_with fail
  refine HC.out.mono ?_
  rintro e w1 ⟨rfl, ⟨hBb, v, hbk, hown, hne⟩, b1⟩
  have c0 : w1.cell? ⟨b, 0, none⟩ = some (.pointer (some ⟨b, 0, none⟩)) := by rw [Lib.cell_of_heap hbk]; rfl
  have c1 : w1.cell? ⟨b, 1, none⟩ = some v := by rw [Lib.cell_of_heap hbk]; rfl
  have hlt : b < w1.heap.size := (Array.getElem?_eq_some_iff.1 hbk).1
  rw [U8_length] at hown
  have H1 := Lib.hid (And.intro hBb (And.intro hbk (And.intro hown (And.intro hne (And.intro b1 hlt)))))
  have hsz1 := b1.size
  clear hBb hbk hown hne b1 hlt
  go_wp2_with (at_builtin; refine wpList_append_bs _ rfl _ _ 24 rfl B 5 i0 Tryd.underlying24 hi0 hz0 hz1 hz2 v l.length _ rfl (H1.out.2.2.1.alloc _) (w1.heap.size + 1) (some ⟨w1.heap.size, 0, none⟩) 1 1 [u] rfl (Bs.lit_ w1 5 _ _ [u] (by show [Value.int .u8 q] = [Value.int .u8 (u.toNat : Int)]; rw [HU.out])) (by omega) (by rw [alloc_size]; omega) ?_; intro v2 w2 hown2 hgrow2; have hb2 : w2.heap[b]? = some (.cells #[.pointer (some ⟨b, 0, none⟩), v] 91) := (hgrow2.block b (by rw [alloc_size]; exact Nat.lt_succ_of_lt H1.out.2.2.2.2.2) (fun e => H1.out.2.2.2.1 e.symm)).trans ((Lib.alloc_old w1 _ b H1.out.2.2.2.2.2).trans H1.out.2.1); have d0 : w2.cell? ⟨b, 0, none⟩ = some (.pointer (some ⟨b, 0, none⟩)) := (by rw [Lib.cell_of_heap hb2]; rfl); have d1 : w2.cell? ⟨b, 1, none⟩ = some v := (by rw [Lib.cell_of_heap hb2]; rfl); have f1 : w2.frozen? ⟨b, 1, none⟩ = false := Lib.frozen_of_heap hb2 1; obtain ⟨A2, c2, rfl, hc2⟩ := own_slice (l := l ++ [u]) (by rw [U8_append]; exact hown2); have HO := Lib.hid (And.intro hown2 (And.intro hgrow2 hb2)); clear hown2 hgrow2 hb2 hc2)
  go_ret
  refine ⟨rfl, .inr (Lib.BuilderAt.put (T := 91) (e := 5) H1.out.1 HO.out.2.2 (bs' := U8 (l ++ [u])) (by rw [U8_append, ← U8_append, U8_length, List.length_append]; have := HO.out.1; rw [← U8_append] at this; exact this) (by decide)), ?_⟩
  exact ((H1.out.2.2.2.2.1.alloc (by omega) _).grown HO.out.2.1 (by rw [alloc_size]; omega) (own_ge H1.out.2.2.1)).setCell (p := ⟨b, 1, none⟩) H1.out.1 _
theorem str_cells (s : ByteArray) : Lib.strCells s = U8 s.data.toList := by
  unfold Lib.strCells U8
  first | rfl | simp
set_option maxHeartbeats 4000000 in
theorem bdStr_f (B b : Nat) (l : List UInt8) (s : ByteArray) (w : World) (h : Bd B b l w) (hl : l.length ≤ 1000000) (hs : s.size ≤ 1000000) (hB : B ≤ w.heap.size) :
    Calls Tryd.prog 52 #[.pointer (some ⟨b, 0, none⟩), .string s] w fun e w' => e = .returned (.tuple #[.int .i64 (s.size : Int), .nilIface]) ∧ Bd B b (l ++ s.data.toList) w' ∧ Below B w w' := by
  obtain ⟨i0, hi0, hz0, hz1, hz2⟩ := info_parts info_u8
  have HC := Lib.hid (bdCheck_f B b _ w h)
  have hml : 2000000 ≤ maxLen := by simp only [maxLen]; omega
  clear h
  go_enter Tryd.func52, Tryd.ntmps52
  go_wp2_with fail
  refine HC.out.mono ?_
  rintro e w1 ⟨rfl, ⟨hBb, v, hbk, hown, hne⟩, b1⟩
  have c0 : w1.cell? ⟨b, 0, none⟩ = some (.pointer (some ⟨b, 0, none⟩)) := by rw [Lib.cell_of_heap hbk]; rfl
  have c1 : w1.cell? ⟨b, 1, none⟩ = some v := by rw [Lib.cell_of_heap hbk]; rfl
  have hlt : b < w1.heap.size := (Array.getElem?_eq_some_iff.1 hbk).1
  rw [U8_length] at hown
  have H1 := Lib.hid (And.intro hBb (And.intro hbk (And.intro hown (And.intro hne (And.intro b1 hlt)))))
  have hsz1 := b1.size
  clear hBb hbk hown hne b1 hlt
  go_wp2_with (at_builtin; refine Lib.wpList_append_own_string _ rfl _ _ 24 9 rfl B 5 i0 Tryd.underlying24 Tryd.underlying9 hi0 hz0 hz1 hz2 v l.length _ rfl H1.out.2.2.1 s rfl (by omega) (by omega) (by omega) ?_; intro v2 w2 hown2 hgrow2 hnil2; rw [str_cells] at hown2; have hb2 : w2.heap[b]? = some (.cells #[.pointer (some ⟨b, 0, none⟩), v] 91) := (hgrow2.block b H1.out.2.2.2.2.2 (fun e => H1.out.2.2.2.1 e.symm)).trans H1.out.2.1; have d0 : w2.cell? ⟨b, 0, none⟩ = some (.pointer (some ⟨b, 0, none⟩)) := (by rw [Lib.cell_of_heap hb2]; rfl); have d1 : w2.cell? ⟨b, 1, none⟩ = some v := (by rw [Lib.cell_of_heap hb2]; rfl); have f1 : w2.frozen? ⟨b, 1, none⟩ = false := Lib.frozen_of_heap hb2 1; obtain ⟨A2, c2, rfl, hc2⟩ := own_slice (l := l ++ s.data.toList) (by rw [U8_append]; exact hown2); have HO := Lib.hid (And.intro hown2 (And.intro hgrow2 hb2)); clear hown2 hgrow2 hb2 hc2 hnil2)
  go_ret2
  refine ⟨rfl, .inr (Lib.BuilderAt.put (T := 91) (e := 5) H1.out.1 HO.out.2.2 (bs' := U8 (l ++ s.data.toList)) (by rw [U8_length, List.length_append, Array.length_toList]; have := HO.out.1; rw [← U8_append] at this; exact this) (by decide)), ?_⟩
  exact (H1.out.2.2.2.2.1.grown HO.out.2.1 (by omega) (own_ge H1.out.2.2.1)).setCell (p := ⟨b, 1, none⟩) H1.out.1 _
theorem bdText_f (B b : Nat) (l : List UInt8) (w : World) (h : Bd B b l w) (hB : B ≤ w.heap.size) :
    Calls Tryd.prog 54 #[.pointer (some ⟨b, 0, none⟩)] w fun e w' => e = .returned (.string ⟨l.toArray⟩) ∧ Below B w w' :=
  Tryd.Builder_String_any B b l w (by rw [cells_u8]; exact h) hB
end Go.Proofs.YthnbcilpallhjaaDoor
