/-
  The strings.Builder of this program: a sign, a text put behind what it has.
-/
/-
  The program's bytes as signs of six bits each.
-/
import Derived.Test.YtbclgalocipmfaaDoorPlBase
import Derived.Test.YtbclgalocipmfaaDoorRowK
import Derived.Lib.AppendStr
import Derived.Test.YtbclgalocipmfaaDoorShelfB
import Derived.Deep.Cut
namespace Go.Proofs.YtbclgalocipmfaaDoor
open Go.RowKit
set_option maxRecDepth 100000
set_option maxRecDepth 100000
set_option linter.unusedVariables false
set_option linter.unusedSimpArgs false
theorem info_bd : ∃ i, Tryd.prog.info? 91 = some i ∧ i.size = 2 := by
  have h : (Tryd.prog.info? 91).map (·.size) = some 2 := by kernel_rfl
  exact Option.map_eq_some_iff.1 h
set_option maxHeartbeats 2000000 in
theorem bdCheck_f (B b : Nat) (bs : List Value) (w : World) (h : Lib.IsBuilder 91 5 B b bs w) :
    Calls Tryd.prog 79 #[.pointer (some ⟨b, 0, none⟩)] w fun e w' => e = .returned (.tuple #[]) ∧ Lib.BuilderAt 91 5 B b (.pointer (some ⟨b, 0, none⟩)) bs w' ∧ Below B w w' := by
  obtain ⟨i, hi, his⟩ := info_bd
  rcases h with h | h
  · have c0 := h.cell0
    have f0 := h.frozen0
    have hto := Lib.run_to_unsafe (P := Tryd.prog) w ⟨b, 0, none⟩ Tryd.underlying89 Tryd.underlying156 hi (by rw [his]; decide) h.shape (Nat.zero_lt_succ 1)
    have hfrom := Lib.run_from_unsafe (P := Tryd.prog) w ⟨b, 0, none⟩ Tryd.underlying156 Tryd.underlying89 hi h.shape (by kernel_rfl)
    have HH := Lib.hid h
    clear h
    go_enter Tryd.func79, Tryd.ntmps79
    go_wp2
    rw [run_callFunc_extern Tryd.func110 (by kernel_rfl) (by kernel_rfl) (by kernel_rfl) (e := Extern.AbiNoEscape.same) (by kernel_rfl), show (Extern.AbiNoEscape.same #[.pointer (some ⟨b, 0, none⟩)]).run Tryd.prog w = .ok (.pointer (some ⟨b, 0, none⟩)) w from rfl]
    dsimp only [Result.andThen]
    rw [Oper.upon_value]
    go_wp2
    go_end0
    exact ⟨rfl, HH.out.used _, (Below.refl B w).setCell (p := ⟨b, 0, none⟩) HH.out.1 _⟩
  · have hne := Lib.run_neq_ptr_same (P := Tryd.prog) (te := 91) w ⟨b, 0, none⟩ Tryd.underlying89 hi
    have c0 := h.cell0
    have HH := Lib.hid h
    clear h
    go_enter Tryd.func79, Tryd.ntmps79
    go_wp2
    go_end0
    exact ⟨rfl, HH.out, Below.refl B _⟩
theorem cells_u8 (l : List UInt8) : Lib.byteCells l = U8 l := by unfold Lib.byteCells U8; exact List.map_congr_left fun _ _ => rfl
/-- A builder that has these bytes. -/
def Bd (B b : Nat) (l : List UInt8) (w : World) : Prop := Lib.IsBuilder 91 5 B b (U8 l) w
theorem Bd.new_ (w : World) : Bd w.heap.size w.heap.size [] (w.alloc (.cells #[.pointer none, .slice none 0 0] 91)) := Lib.fresh_isBuilder _ _ w
theorem Bd.lt {B b : Nat} {l : List UInt8} {w : World} (h : Bd B b l w) : b < w.heap.size := by
  rcases h with h | h <;> exact h.lt
theorem Bd.below {B b : Nat} {l : List UInt8} {w w' : World} (h : Bd B b l w) (hb : Below w.heap.size w w') : Bd B b l w' := by
  rcases h with h | h
  · obtain ⟨h1, v, h2, h3, h4⟩ := h
    exact .inl ⟨h1, v, (hb.block b (Array.getElem?_eq_some_iff.1 h2).1).trans h2, rk_below h3 hb, h4⟩
  · obtain ⟨h1, v, h2, h3, h4⟩ := h
    exact .inr ⟨h1, v, (hb.block b (Array.getElem?_eq_some_iff.1 h2).1).trans h2, rk_below h3 hb, h4⟩
set_option maxHeartbeats 4000000 in
theorem bdByte_f (B b : Nat) (l : List UInt8) (u : UInt8) (w : World) (h : Bd B b l w) (hl : l.length ≤ 1000000) (hB : B ≤ w.heap.size) :
    Calls Tryd.prog 87 #[.pointer (some ⟨b, 0, none⟩), .int .u8 (u.toNat : Int)] w fun e w' => e = .returned .nilIface ∧ Bd B b (l ++ [u]) w' ∧ Below B w w' := by
  obtain ⟨i0, hi0, hz0, hz1, hz2⟩ := info_parts info_u8
  have HC := Lib.hid (bdCheck_f B b _ w h)
  clear h
  obtain ⟨q, hq⟩ : ∃ q, (u.toNat : Int) = q := ⟨_, rfl⟩
  rw [hq]
  have HU := Lib.hid hq
  clear hq
  go_enter Tryd.func87, Tryd.ntmps87
  go_wp2_with fail
  refine HC.out.mono ?_
  rintro e w1 ⟨rfl, ⟨hBb, v, hbk, hown, hne⟩, b1⟩
  have c0 : w1.cell? ⟨b, 0, none⟩ = some (.pointer (some ⟨b, 0, none⟩)) := by rw [Lib.cell_of_heap hbk]; rfl
  have c1 : w1.cell? ⟨b, 1, none⟩ = some v := by rw [Lib.cell_of_heap hbk]; rfl
  have hlt : b < w1.heap.size := (Array.getElem?_eq_some_iff.1 hbk).1
  rw [U8_length] at hown
  have H1 := Lib.hid (And.intro hBb (And.intro hbk (And.intro hown (And.intro hne (And.intro b1 hlt)))))
  have hsz1 := b1.size
  clear hBb hbk hown hne b1 hlt
  go_wp2_with (at_builtin; refine wpList_append_bs _ rfl _ _ 24 rfl B 5 i0 Tryd.underlying24 hi0 hz0 hz1 hz2 v l.length _ rfl (H1.out.2.2.1.alloc _) (w1.heap.size + 1) (some ⟨w1.heap.size, 0, none⟩) 1 1 [u] rfl (Bs.lit_ w1 5 _ _ [u] (by show [Value.int .u8 q] = [Value.int .u8 (u.toNat : Int)]; rw [HU.out])) (by omega) (by rw [alloc_size]; omega) ?_; intro v2 w2 hown2 hgrow2; have hb2 : w2.heap[b]? = some (.cells #[.pointer (some ⟨b, 0, none⟩), v] 91) := (hgrow2.block b (by rw [alloc_size]; exact Nat.lt_succ_of_lt H1.out.2.2.2.2.2) (fun e => H1.out.2.2.2.1 e.symm)).trans ((Lib.alloc_old w1 _ b H1.out.2.2.2.2.2).trans H1.out.2.1); have d0 : w2.cell? ⟨b, 0, none⟩ = some (.pointer (some ⟨b, 0, none⟩)) := (by rw [Lib.cell_of_heap hb2]; rfl); have d1 : w2.cell? ⟨b, 1, none⟩ = some v := (by rw [Lib.cell_of_heap hb2]; rfl); have f1 : w2.frozen? ⟨b, 1, none⟩ = false := Lib.frozen_of_heap hb2 1; obtain ⟨A2, c2, rfl, hc2⟩ := own_slice (l := l ++ [u]) (by rw [U8_append]; exact hown2); have HO := Lib.hid (And.intro hown2 (And.intro hgrow2 hb2)); clear hown2 hgrow2 hb2 hc2)
  go_ret
  refine ⟨rfl, .inr (Lib.BuilderAt.put (T := 91) (e := 5) H1.out.1 HO.out.2.2 (bs' := U8 (l ++ [u])) (by rw [U8_append, ← U8_append, U8_length, List.length_append]; have := HO.out.1; rw [← U8_append] at this; exact this) (by decide)), ?_⟩
  exact ((H1.out.2.2.2.2.1.alloc (by omega) _).grown HO.out.2.1 (by rw [alloc_size]; omega) (own_ge H1.out.2.2.1)).setCell (p := ⟨b, 1, none⟩) H1.out.1 _
theorem str_cells (s : ByteArray) : Lib.strCells s = U8 s.data.toList := by
  unfold Lib.strCells U8
  first | rfl | simp
set_option maxHeartbeats 4000000 in
theorem bdStr_f (B b : Nat) (l : List UInt8) (s : ByteArray) (w : World) (h : Bd B b l w) (hl : l.length ≤ 1000000) (hs : s.size ≤ 1000000) (hB : B ≤ w.heap.size) :
    Calls Tryd.prog 52 #[.pointer (some ⟨b, 0, none⟩), .string s] w fun e w' => e = .returned (.tuple #[.int .i64 (s.size : Int), .nilIface]) ∧ Bd B b (l ++ s.data.toList) w' ∧ Below B w w' := by
  obtain ⟨i0, hi0, hz0, hz1, hz2⟩ := info_parts info_u8
  have HC := Lib.hid (bdCheck_f B b _ w h)
  have hml : 2000000 ≤ maxLen := by simp only [maxLen]; omega
  clear h
  go_enter Tryd.func52, Tryd.ntmps52
  go_wp2_with fail
  refine HC.out.mono ?_
  rintro e w1 ⟨rfl, ⟨hBb, v, hbk, hown, hne⟩, b1⟩
  have c0 : w1.cell? ⟨b, 0, none⟩ = some (.pointer (some ⟨b, 0, none⟩)) := by rw [Lib.cell_of_heap hbk]; rfl
  have c1 : w1.cell? ⟨b, 1, none⟩ = some v := by rw [Lib.cell_of_heap hbk]; rfl
  have hlt : b < w1.heap.size := (Array.getElem?_eq_some_iff.1 hbk).1
  rw [U8_length] at hown
  have H1 := Lib.hid (And.intro hBb (And.intro hbk (And.intro hown (And.intro hne (And.intro b1 hlt)))))
  have hsz1 := b1.size
  clear hBb hbk hown hne b1 hlt
  go_wp2_with (at_builtin; refine Lib.wpList_append_own_string _ rfl _ _ 24 9 rfl B 5 i0 Tryd.underlying24 Tryd.underlying9 hi0 hz0 hz1 hz2 v l.length _ rfl H1.out.2.2.1 s rfl (by omega) (by omega) (by omega) ?_; intro v2 w2 hown2 hgrow2 hnil2; rw [str_cells] at hown2; have hb2 : w2.heap[b]? = some (.cells #[.pointer (some ⟨b, 0, none⟩), v] 91) := (hgrow2.block b H1.out.2.2.2.2.2 (fun e => H1.out.2.2.2.1 e.symm)).trans H1.out.2.1; have d0 : w2.cell? ⟨b, 0, none⟩ = some (.pointer (some ⟨b, 0, none⟩)) := (by rw [Lib.cell_of_heap hb2]; rfl); have d1 : w2.cell? ⟨b, 1, none⟩ = some v := (by rw [Lib.cell_of_heap hb2]; rfl); have f1 : w2.frozen? ⟨b, 1, none⟩ = false := Lib.frozen_of_heap hb2 1; obtain ⟨A2, c2, rfl, hc2⟩ := own_slice (l := l ++ s.data.toList) (by rw [U8_append]; exact hown2); have HO := Lib.hid (And.intro hown2 (And.intro hgrow2 hb2)); clear hown2 hgrow2 hb2 hc2 hnil2)
  go_ret2
  refine ⟨rfl, .inr (Lib.BuilderAt.put (T := 91) (e := 5) H1.out.1 HO.out.2.2 (bs' := U8 (l ++ s.data.toList)) (by rw [U8_length, List.length_append, Array.length_toList]; have := HO.out.1; rw [← U8_append] at this; exact this) (by decide)), ?_⟩
  exact (H1.out.2.2.2.2.1.grown HO.out.2.1 (by omega) (own_ge H1.out.2.2.1)).setCell (p := ⟨b, 1, none⟩) H1.out.1 _
theorem bdText_f (B b : Nat) (l : List UInt8) (w : World) (h : Bd B b l w) (hB : B ≤ w.heap.size) :
    Calls Tryd.prog 54 #[.pointer (some ⟨b, 0, none⟩)] w fun e w' => e = .returned (.string ⟨l.toArray⟩) ∧ Below B w w' :=
  Tryd.Builder_String_any B b l w (by rw [cells_u8]; exact h) hB
theorem fold_out (l : List UInt8) : ∀ (x m : Nat) (O P : List UInt8), l.foldl b64S (x, m, O ++ P) = ((l.foldl b64S (x, m, P)).1, (l.foldl b64S (x, m, P)).2.1, O ++ (l.foldl b64S (x, m, P)).2.2) := by
  induction l with
  | nil => intro x m O P; rfl
  | cons u r ih =>
    intro x m O P
    rw [List.foldl_cons, List.foldl_cons]
    show r.foldl b64S ((x * 256 + u.toNat) % 64, (m + 8) % 6, (O ++ P) ++ ltrs (x * 256 + u.toNat) 3 (m + 8)) = _
    rw [List.append_assoc, ih]
    rfl
theorem b64E_out (x m : Nat) (O P : List UInt8) : b64E (x, m, O ++ P) = O ++ b64E (x, m, P) := by unfold b64E; dsimp only; rw [List.append_assoc]
theorem ltrs8 (B : Nat) : ltrs B 3 (0 + 8) = [letU (B / 4 % 64)] := by rw [ltrs_step (by omega), ltrs_end (by omega)]
theorem ltrs10 (B : Nat) : ltrs B 3 (2 + 8) = [letU (B / 16 % 64)] := by rw [ltrs_step (by omega), ltrs_end (by omega)]
theorem ltrs12 (B : Nat) : ltrs B 3 (4 + 8) = [letU (B / 64 % 64), letU (B % 64)] := by rw [ltrs_step (by omega), ltrs_step (by omega), ltrs_end (by omega)]; simp
theorem b64S_0 (x : Nat) (O : List UInt8) (u : UInt8) : b64S (x, 0, O) u = ((x * 256 + u.toNat) % 64, 2, O ++ [letU ((x * 256 + u.toNat) / 4 % 64)]) := by
  unfold b64S; dsimp only; rw [ltrs8]
theorem b64S_2 (x : Nat) (O : List UInt8) (u : UInt8) : b64S (x, 2, O) u = ((x * 256 + u.toNat) % 64, 4, O ++ [letU ((x * 256 + u.toNat) / 16 % 64)]) := by
  unfold b64S; dsimp only; rw [ltrs10]
theorem b64S_4 (x : Nat) (O : List UInt8) (u : UInt8) : b64S (x, 4, O) u = ((x * 256 + u.toNat) % 64, 0, O ++ [letU ((x * 256 + u.toNat) / 64 % 64), letU ((x * 256 + u.toNat) % 64)]) := by
  unfold b64S; dsimp only; rw [ltrs12]
theorem fold_from (l : List UInt8) (x : Nat) (O : List UInt8) : b64E (l.foldl b64S (x, 0, O)) = O ++ b64E (l.foldl b64S (0, 0, [])) := by
  cases l with
  | nil => show O ++ [] = O ++ ([] ++ []); simp
  | cons u r =>
    rw [List.foldl_cons, List.foldl_cons]
    show b64E (r.foldl b64S ((x * 256 + u.toNat) % 64, (0 + 8) % 6, O ++ ltrs (x * 256 + u.toNat) 3 (0 + 8))) = O ++ b64E (r.foldl b64S ((0 * 256 + u.toNat) % 64, (0 + 8) % 6, [] ++ ltrs (0 * 256 + u.toNat) 3 (0 + 8)))
    rw [ltrs8, ltrs8, List.nil_append, show (x * 256 + u.toNat) % 64 = (0 * 256 + u.toNat) % 64 by omega, show (x * 256 + u.toNat) / 4 % 64 = (0 * 256 + u.toNat) / 4 % 64 by omega, fold_out, b64E_out]
theorem b64P_four {X Y : List UInt8} (h : X.length = 4) : b64P (X ++ Y) = X ++ b64P Y := by
  unfold b64P
  rw [List.append_assoc, List.length_append, h, show (4 - (4 + Y.length) % 4) % 4 = (4 - Y.length % 4) % 4 by omega]
def quad (x i : Nat) : UInt8 := letU (x / 2 ^ (6 * (3 - i)) % 64)
theorem letU_of {a b : Nat} (h : a = b) : letU a = letU b := by rw [h]
theorem b64Q_three (a b c : UInt8) (r : List UInt8) : b64Q (a :: b :: c :: r) = [quad (a.toNat * 65536 + b.toNat * 256 + c.toNat) 0, quad (a.toNat * 65536 + b.toNat * 256 + c.toNat) 1, quad (a.toNat * 65536 + b.toNat * 256 + c.toNat) 2, quad (a.toNat * 65536 + b.toNat * 256 + c.toNat) 3] ++ b64Q r := by
  have ha := a.toNat_lt
  have hb := b.toNat_lt
  have hc := c.toNat_lt
  unfold b64Q b64F
  rw [List.foldl_cons, List.foldl_cons, List.foldl_cons]
  rw [b64S_0, b64S_2, b64S_4, fold_from, b64P_four (by rfl)]
  congr 1
  show [letU _, letU _, letU _, letU _] = [letU _, letU _, letU _, letU _]
  congr 1
  · exact letU_of (by show _ = _ / 262144 % 64; omega)
  · congr 1
    · exact letU_of (by show _ = _ / 4096 % 64; omega)
    · congr 1
      · exact letU_of (by show _ = _ / 64 % 64; omega)
      · congr 1
        exact letU_of (by show _ = _ / 1 % 64; omega)
theorem b64Q_two (a b : UInt8) : b64Q [a, b] = [quad (a.toNat * 65536 + b.toNat * 256 + 0) 0, quad (a.toNat * 65536 + b.toNat * 256 + 0) 1, quad (a.toNat * 65536 + b.toNat * 256 + 0) 2, 61] := by
  have ha := a.toNat_lt
  have hb := b.toNat_lt
  unfold b64Q b64F
  rw [List.foldl_cons, List.foldl_cons, List.foldl_nil]
  rw [b64S_0, b64S_2]
  show [letU _, letU _, letU _, 61] = [letU _, letU _, letU _, 61]
  congr 1
  · exact letU_of (by show _ = _ / 262144 % 64; omega)
  · congr 1
    · exact letU_of (by show _ = _ / 4096 % 64; omega)
    · congr 1
      exact letU_of (by show _ * 2 ^ 2 % 64 = _ / 64 % 64; omega)
theorem b64Q_one (a : UInt8) : b64Q [a] = [quad (a.toNat * 65536 + 0 * 256 + 0) 0, quad (a.toNat * 65536 + 0 * 256 + 0) 1, 61, 61] := by
  have ha := a.toNat_lt
  unfold b64Q b64F
  rw [List.foldl_cons, List.foldl_nil]
  rw [b64S_0]
  show [letU _, letU _, 61, 61] = [letU _, letU _, 61, 61]
  congr 1
  · exact letU_of (by show _ = _ / 262144 % 64; omega)
  · congr 1
    exact letU_of (by show _ * 2 ^ 4 % 64 = _ / 4096 % 64; omega)
theorem or_lowB (i A b : Nat) (hb : b < 2 ^ i) (hA : 2 ^ i * A + b < 9223372036854775808) : bits .or .i64 ((2 ^ i * A : Nat) : Int) (b : Int) = ((2 ^ i * A + b : Nat) : Int) := by
  show IntKind.i64.wrap ((BitVec.ofInt 64 ((2 ^ i * A : Nat) : Int) ||| BitVec.ofInt 64 (b : Int)).toNat : Int) = _
  rw [BitVec.toNat_or, BitVec.ofInt_natCast, BitVec.ofInt_natCast, BitVec.toNat_ofNat, BitVec.toNat_ofNat, Nat.mod_eq_of_lt (by omega), Nat.mod_eq_of_lt (by omega), ← Nat.two_pow_add_eq_or_of_lt hb, IntWalk.i64_in _ (by omega)]
theorem quad_or (a b c : Nat) (ha : a < 256) (hb : b < 256) (hc : c < 256) : bits .or .i64 (bits .or .i64 ((a : Int) * 65536) ((b : Int) * 256)) (c : Int) = ((a * 65536 + b * 256 + c : Nat) : Int) := by
  have h1 := or_lowB 16 a (b * 256) (by show b * 256 < 65536; omega) (by show 65536 * a + b * 256 < _; omega)
  have h2 := or_lowB 8 (a * 256 + b) c (by show c < 256; omega) (by show 256 * (a * 256 + b) + c < _; omega)
  rw [show ((2 ^ 16 * a : Nat) : Int) = (a : Int) * 65536 by show ((65536 * a : Nat) : Int) = _; omega, show ((b * 256 : Nat) : Int) = (b : Int) * 256 by omega] at h1
  rw [h1, show ((2 ^ 16 * a + b * 256 : Nat) : Int) = ((2 ^ 8 * (a * 256 + b) : Nat) : Int) by show ((65536 * a + b * 256 : Nat) : Int) = ((256 * (a * 256 + b) : Nat) : Int); omega, h2]
  show ((256 * (a * 256 + b) + c : Nat) : Int) = _
  omega
def signsB : ByteArray := ⟨#[65, 66, 67, 68, 69, 70, 71, 72, 73, 74, 75, 76, 77, 78, 79, 80, 81, 82, 83, 84, 85, 86, 87, 88, 89, 90, 97, 98, 99, 100, 101, 102, 103, 104, 105, 106, 107, 108, 109, 110, 111, 112, 113, 114, 115, 116, 117, 118, 119, 120, 121, 122, 48, 49, 50, 51, 52, 53, 54, 55, 56, 57, 43, 47]⟩
theorem signs_all : ∀ i : Fin 64, signsB.data[i.val]! = letU i.val := by decide +kernel
theorem signs_at (i : Nat) (h : i < 64) : signsB[i]'h = letU i := by
  have := signs_all ⟨i, h⟩
  rw [getElem!_pos signsB.data i h] at this
  exact this
theorem size_u8 : (Tryd.prog.info? 5).map (·.size) = some 1 := by kernel_rfl
/-- What stands in the world behind the copy. -/
structure Cpd (wr W : World) (x y z : Int) : Prop where
  bel : Below wr.heap.size wr W
  c0 : W.cell? ⟨wr.heap.size, 0, none⟩ = some (.int .u8 x)
  c1 : W.cell? ⟨wr.heap.size, 1, none⟩ = some (.int .u8 y)
  c2 : W.cell? ⟨wr.heap.size, 2, none⟩ = some (.int .u8 z)
theorem copy_three (wr : World) (B : Nat) (A : Option Addr) (m c : Nat) (R : List UInt8) (hbs : Bs wr B A m R) (hB : B ≤ wr.heap.size) :
    ∃ W1, (Builtin.copy_ #[24, 24] 3 #[.slice (some ⟨wr.heap.size, 0, none⟩) 3 3, .slice A m c]).run Tryd.prog (wr.alloc (.cells #[.int .u8 0, .int .u8 0, .int .u8 0] 132)) = .ok (.int .i64 ((min m 3 : Nat) : Int)) W1 ∧
      Cpd wr W1 (((R[0]?).getD 0).toNat : Int) (((R[1]?).getD 0).toNat : Int) (((R[2]?).getD 0).toNat : Int) := by
  have hb2 := hbs.below' (alloc_below wr (.cells #[.int .u8 0, .int .u8 0, .int .u8 0] 132)) hB
  have hth : (wr.alloc (.cells #[.int .u8 0, .int .u8 0, .int .u8 0] 132)).there wr.heap.size 0 3 := fun j hj => by
    rw [cell_of_row _ _ _ _ _ _ (heap_alloc_new wr _)]
    refine ⟨?_, World.frozen?_alloc_new _ _ _ _⟩
    match j, hj with
    | 0, _ => rfl
    | 1, _ => rfl
    | 2, _ => rfl
  have hcp := run_copy_bs (P := Tryd.prog) (wr.alloc (.cells #[.int .u8 0, .int .u8 0, .int .u8 0] 132)) 24 24 3 5 wr.heap.size 0 3 3 (c := c) Tryd.underlying24 size_u8 hb2 (fun j hj => hth j (by omega))
  have hcl := World.cell?_setCells_out
  obtain ⟨W1, hW1⟩ : ∃ W1, (wr.alloc (.cells #[.int .u8 0, .int .u8 0, .int .u8 0] 132)).setCells wr.heap.size 0 (U8 (R.take (min m 3))) = W1 := ⟨_, rfl⟩
  rw [hW1] at hcp
  have hlR := hbs.len
  have hin : ∀ (j : Nat) (u : UInt8), (R.take (min m 3))[j]? = some u → W1.cell? ⟨wr.heap.size, j, none⟩ = some (.int .u8 (u.toNat : Int)) := fun j u hu => by
    have hj := (List.getElem?_eq_some_iff.1 hu).1
    rw [List.length_take] at hj
    have h1 := World.cell?_setCells_in wr.heap.size (U8 (R.take (min m 3))) 0 (wr.alloc (.cells #[.int .u8 0, .int .u8 0, .int .u8 0] 132)) (fun k hk => (hth k (by rw [U8_length, List.length_take] at hk; omega)).1) j (by rw [U8_length, List.length_take]; omega)
    rw [hW1, Nat.zero_add] at h1
    have hj2 : j < (U8 (R.take (min m 3))).length := by rw [U8_length, List.length_take]; omega
    have h2 : (U8 (R.take (min m 3)))[j]? = some ((U8 (R.take (min m 3)))[j]'hj2) := List.getElem?_eq_getElem hj2
    rw [U8_get, hu] at h2
    rw [h1, ← h2]
    rfl
  have hout : ∀ j, min m 3 ≤ j → W1.cell? ⟨wr.heap.size, j, none⟩ = (wr.alloc (.cells #[.int .u8 0, .int .u8 0, .int .u8 0] 132)).cell? ⟨wr.heap.size, j, none⟩ := fun j hj => by
    rw [← hW1]
    exact World.cell?_setCells_out wr.heap.size _ 0 _ _ (fun _ _ => by rw [U8_length, List.length_take]; dsimp only; omega)
  have hget : ∀ j, j < 3 → W1.cell? ⟨wr.heap.size, j, none⟩ = some (.int .u8 (((R[j]?).getD 0).toNat : Int)) := fun j hj => by
    by_cases h : j < m
    · obtain ⟨u, hu⟩ := byte_get (l := R) (k := j) (by omega)
      rw [hu, Option.getD_some]
      exact hin j u (by rw [List.getElem?_take, if_pos (by omega)]; exact hu)
    · rw [List.getElem?_eq_none (by omega), Option.getD_none, hout j (by omega), cell_of_row _ _ _ _ _ _ (heap_alloc_new wr _)]
      match j, hj with
      | 0, _ => rfl
      | 1, _ => rfl
      | 2, _ => rfl
  exact ⟨W1, hcp, by rw [← hW1]; exact below_setCells (alloc_below wr _) (Nat.le_refl _) _ 0, hget 0 (by omega), hget 1 (by omega), hget 2 (by omega)⟩
set_option maxHeartbeats 8000000 in
theorem base64_f (A : Option Addr) (n c : Nat) (l : List UInt8) (w : World) (B : Nat) (hbs : Bs w B A n l) (hB : B ≤ w.heap.size) (hn : n ≤ 100000) (hc : n ≤ c) :
    Calls Tryd.prog 62 #[.slice A n c] w fun e w' => e = .returned (.string ⟨(b64Q l).toArray⟩) ∧ Below w.heap.size w w' := by
  have hlen := hbs.len
  have hnew := Bd.new_ w
  have hz0 := alloc_size w (.cells #[.pointer none, .slice none 0 0] 91)
  have hb0 := alloc_below w (.cells #[.pointer none, .slice none 0 0] 91)
  have H0 := Lib.hid (And.intro hnew (And.intro hb0 (And.intro hz0 (And.intro hlen (And.intro (hbs.below' hb0 hB) hB)))))
  clear hnew hz0 hb0 hbs hlen hB
  go_enter Tryd.func62, Tryd.ntmps62
  go_wp2
  go_loopw [0] (fun v0 wr => ∃ (m c' : Nat) (A' : Option Addr), v0 = .slice A' m c' ∧ m ≤ c' ∧ m ≤ 100000 ∧ Aside (∃ (O R : List UInt8), b64Q l = O ++ b64Q R ∧ O.length + 4 * m ≤ 400000 ∧ Bs wr B A' m R ∧ Bd w.heap.size w.heap.size O wr ∧ Below w.heap.size w wr)) (fun v0 _ => lenOf v0)
  case atStart => exact ⟨n, c, A, rfl, hc, hn, (show Aside _ from ⟨[], l, rfl, by simp; omega, H0.out.2.2.2.2.1, H0.out.1, H0.out.2.1⟩)⟩
  case round =>
    obtain ⟨m, c', A', rfl, hmc, hm, hrel⟩ := hrel
    obtain ⟨O, R, hOR, hOl, hbs, hbd, hbel⟩ := hrel.out
    clear hrel hn hc
    by_cases h0 : m = 0
    · subst h0
      have hR : R = [] := List.eq_nil_of_length_eq_zero hbs.len
      subst hR
      have hOe : b64Q l = O := by rw [hOR]; exact List.append_nil _
      have hT := bdText_f w.heap.size w.heap.size O wr hbd hbel.size
      have HT := Lib.hid (And.intro hT (And.intro hOe hbel))
      clear hOR hOl hbs hbd hbel hT hOe hmc hm
      go_wp2_with fail
      refine HT.out.1.mono ?_
      rintro e w1 ⟨rfl, b1⟩
      have H1 := Lib.hid (HT.out.2.2.trans b1)
      clear b1
      go_wp2
      go_ret
      exact ⟨(by rw [HT.out.2.1]; rfl), H1.out⟩
    obtain ⟨bb, off, rfl, hbB, hcell⟩ := hbs.place (by omega)
    have hlR := hbs.len
    by_cases h3 : 3 ≤ m
    · obtain ⟨a, b, cc, r, rfl⟩ : ∃ a b cc r, R = a :: b :: cc :: r := by
        match R, hlR with
        | a :: b :: cc :: r, _ => exact ⟨a, b, cc, r, rfl⟩
        | [], h => simp at h; omega
        | [_], h => simp at h; omega
        | [_, _], h => simp at h; omega
      have hmI : (3 : Int) ≤ m := by omega
      have hq3 : b64Q (a :: b :: cc :: r) = (List.range 4).map (quad (a.toNat * 65536 + b.toNat * 256 + cc.toNat)) ++ List.replicate 0 61 ++ b64Q r := by rw [b64Q_three]; rfl
      obtain ⟨W1, hcp, hC⟩ := copy_three wr B (some ⟨bb, off, none⟩) m c' _ hbs (Nat.le_trans H0.out.2.2.2.2.2 hbel.size)
      rw [show min m 3 = 3 by omega] at hcp
      obtain ⟨c0, c1, c2⟩ := And.intro hC.c0 (And.intro hC.c1 hC.c2)
      simp only [List.getElem?_cons_zero, List.getElem?_cons_succ, List.getElem?_nil, Option.getD_some, Option.getD_none] at c0 c1 c2
      have hla := (a).toNat_lt
      have hlb := (b).toNat_lt
      have hlc := (cc).toNat_lt
      obtain ⟨xa, hxa⟩ : ∃ xa, (a).toNat = xa := ⟨_, rfl⟩
      obtain ⟨xb, hxb⟩ : ∃ xb, (b).toNat = xb := ⟨_, rfl⟩
      obtain ⟨xc, hxc⟩ : ∃ xc, (cc).toNat = xc := ⟨_, rfl⟩
      have hq4 := hq3
      rw [hxa, hxb, hxc] at hq4
      have d0 : W1.cell? ⟨wr.heap.size, 0, none⟩ = some (.int .u8 (xa : Int)) := by rw [← hxa]; exact c0
      have d1 : W1.cell? ⟨wr.heap.size, 1, none⟩ = some (.int .u8 (xb : Int)) := by rw [← hxb]; exact c1
      have d2 : W1.cell? ⟨wr.heap.size, 2, none⟩ = some (.int .u8 (xc : Int)) := by rw [← hxc]; exact c2
      clear c0 c1 c2
      rw [hxa] at hla
      rw [hxb] at hlb
      rw [hxc] at hlc
      have hor := quad_or xa xb xc hla hlb hlc
      obtain ⟨X, hX⟩ : ∃ X, xa * 65536 + xb * 256 + xc = X := ⟨_, rfl⟩
      rw [hX] at hor hq4
      have hxaI : (xa : Int) < 256 := by omega
      have hxbI : (xb : Int) < 256 := by omega
      have hxcI : (xc : Int) < 256 := by omega
      obtain ⟨m3, hm3⟩ : ∃ m3, m - 3 = m3 := ⟨_, rfl⟩
      obtain ⟨c3, hc3⟩ : ∃ c3, c' - 3 = c3 := ⟨_, rfl⟩
      obtain ⟨o3, ho3, ho3e⟩ : ∃ o3, (if c' = 3 then (some ⟨bb, off, none⟩ : Option Addr) else some ⟨bb, off + 3, none⟩) = some ⟨bb, o3, none⟩ ∧ (c' ≠ 3 → o3 = off + 3) := by
        by_cases h : c' = 3
        · exact ⟨off, by rw [if_pos h], fun h2 => absurd h h2⟩
        · exact ⟨off + 3, by rw [if_neg h], fun _ => rfl⟩
      have hbs3 : Bs wr B (some ⟨bb, o3, none⟩) m3 r := by
        refine ⟨by rw [← hm3, ← hlR]; simp, fun h => ⟨bb, o3, rfl, hbB, fun k u hu => ?_⟩⟩
        have := hcell (k + 3) u (by simpa using hu)
        rw [ho3e (by omega), show off + 3 + k = off + (k + 3) by omega]
        exact this
      have H1 := Lib.hid (And.intro hOR (And.intro hOl (And.intro hbs3 (And.intro hbd (And.intro hbel (And.intro hC.bel (And.intro hq4 (And.intro hm3 hc3))))))))
      have hmcI : (m : Int) ≤ c' := by omega
      have hdm : decide (0 < m) = true := decide_eq_true (by omega)
      have HM := Lib.hid (And.intro hm3 hc3)
      clear hOR hOl hbs hbd hbel hC hq3 hq4 hX hxa hxb hxc hla hlb hlc hcell hlR hbs3 ho3e h0 h3
      have ha63 := and63b
      go_wp2
      try rw [hdm]
      clear hdm
      go_loopw [32] (fun v wy => ∃ i : Nat, v = .int .i64 (i : Int) ∧ i ≤ 4 ∧ Aside (Bd w.heap.size w.heap.size (O ++ (List.range i).map (quad X)) wy ∧ Below w.heap.size W1 wy)) (fun v _ => 4 - (intOf v).toNat)
      case atStart => exact ⟨0, rfl, by omega, (show Aside _ from ⟨by rw [List.range_zero, List.map_nil, List.append_nil]; exact H1.out.2.2.2.1.below H1.out.2.2.2.2.2.1, Below.refl _ _⟩)⟩
      case round =>
        obtain ⟨i, rfl, hi, hrel⟩ := hrel
        obtain ⟨hbd, hbel⟩ := hrel.out
        clear hrel
        by_cases hi4 : i < 4
        · obtain ⟨d, hd⟩ : ∃ d, 6 * (3 - i) = d := ⟨_, rfl⟩
          have hdI : (6 : Int) * (3 - (i : Int)) = (d : Int) := by omega
          obtain ⟨Y, hY⟩ : ∃ Y, X / 2 ^ d = Y := ⟨_, rfl⟩
          have hYI : (X : Int) / 2 ^ d = (Y : Int) := by rw [← hY]; simp
          obtain ⟨S6, hS6⟩ : ∃ S6, Y % 64 = S6 := ⟨_, rfl⟩
          have hS6I : (Y : Int) % 64 = (S6 : Int) := by omega
          have hS64 : S6 < 64 := by omega
          have hqd : quad X i = letU S6 := by unfold quad; rw [hd, hY, hS6]
          have hdb : (d : Int) ≤ 18 := by omega
          have hS64I : (S6 : Int) < 64 := by omega
          have hiI : (i : Int) < 4 := by omega
          have H2 := Lib.hid (And.intro hbd (And.intro hbel (And.intro hqd hS64)))
          clear hbd hbel hqd hd hY hS6 hS64
          go_wp2_with fail
          refine (bdByte_f w.heap.size w.heap.size _ _ wr H2.out.1 (by rw [List.length_append, List.length_map, List.length_range]; have := H1.out.2.1; omega) (Nat.le_trans (H1.out.2.2.2.2.1.trans (H1.out.2.2.2.2.2.1.mono H1.out.2.2.2.2.1.size)).size H2.out.2.1.size)).mono ?_
          rintro e w2 ⟨rfl, hbd2, hb2⟩
          have hbd3 : Bd w.heap.size w.heap.size (O ++ (List.range i).map (quad X) ++ [signsB[S6]'(H2.out.2.2.2)]) w2 := hbd2
          rw [signs_at S6 H2.out.2.2.2, ← H2.out.2.2.1] at hbd3
          have H3 := Lib.hid (And.intro hbd3 (H2.out.2.1.trans hb2))
          clear hbd2 hb2 hbd3
          go_wp2
          go_roundw
          case rel => exact ⟨i + 1, by first | rfl | go_num, by omega, (show Aside _ from ⟨by rw [List.range_succ, List.map_append, ← List.append_assoc]; exact H3.out.1, H3.out.2⟩)⟩
          case measure => simp [intOf]; omega
        · obtain rfl : i = 4 := by omega
          have hBW := Nat.le_trans (H1.out.2.2.2.2.1.trans (H1.out.2.2.2.2.2.1.mono H1.out.2.2.2.2.1.size)).size hbel.size
          have hbw : Below w.heap.size w wr := (H1.out.2.2.2.2.1.trans (H1.out.2.2.2.2.2.1.mono H1.out.2.2.2.2.1.size)).trans hbel
          have hrep : ∀ W, Calls Tryd.prog 88 #[.string ⟨#[61]⟩, .int .i64 0] W fun e w' => e = .returned (.string ⟨(List.replicate 0 (61 : UInt8)).toArray⟩) ∧ Below W.heap.size W w' := fun W => Tryd.strings_Repeat (⟨#[61]⟩ : ByteArray) 0 W (by omega) (by show 1 * 0 ≤ _; omega)
          have hbs4 : Bs wr B (some ⟨bb, o3, none⟩) m3 r := (H1.out.2.2.1.below' H1.out.2.2.2.2.2.1 (Nat.le_trans H0.out.2.2.2.2.2 H1.out.2.2.2.2.1.size)).below' hbel H0.out.2.2.2.2.2
          obtain ⟨pad, hpad⟩ : ∃ pad : ByteArray, ⟨(List.replicate 0 (61 : UInt8)).toArray⟩ = pad := ⟨_, rfl⟩
          rw [hpad] at hrep
          have H4 := Lib.hid (And.intro hrep (And.intro hbd (And.intro hbw (And.intro hBW (And.intro hbs4 hpad)))))
          clear hrep hbd hbel hbw hBW hbs4 hi hi4 hpad
          go_wp2_with fail
          refine (H4.out.1 wr).mono ?_
          rintro e w2 ⟨rfl, b2⟩
          have hlp : pad.size = 0 := by rw [← H4.out.2.2.2.2.2]; rfl
          have H5 := Lib.hid (And.intro (H4.out.2.1.below b2) (And.intro (H4.out.2.2.1.trans (b2.mono H4.out.2.2.2.1)) ((H4.out.2.2.2.2.1.below' b2 (Nat.le_trans H0.out.2.2.2.2.2 H4.out.2.2.2.1)))))
          have hcs := bdStr_f w.heap.size w.heap.size _ pad w2 H5.out.1 (by rw [List.length_append, List.length_map, List.length_range]; have := H1.out.2.1; omega) (by rw [hlp]; omega) H5.out.2.1.size
          have HS := Lib.hid hcs
          clear b2 hlp hcs
          go_wp2_with fail
          refine HS.out.mono ?_
          rintro e w3 ⟨rfl, hbd3, b3⟩
          have H6 := Lib.hid (And.intro hbd3 (And.intro (H5.out.2.1.trans b3) (H5.out.2.2.below' b3 H0.out.2.2.2.2.2)))
          clear hbd3 b3
          go_wp2
          go_roundw
          case rel =>
            refine ⟨m3, c3, some ⟨bb, o3, none⟩, rfl, by have := HM.out; omega, by have := HM.out; omega, (show Aside _ from ⟨O ++ (List.range 4).map (quad X) ++ pad.data.toList, r, ?_, ?_, H6.out.2.2, H6.out.1, H6.out.2.1⟩)⟩
            · rw [H1.out.1, H1.out.2.2.2.2.2.2.1, ← H4.out.2.2.2.2.2]
              simp [List.append_assoc]
            · rw [← H4.out.2.2.2.2.2]
              simp only [List.length_append, List.length_map, List.length_range, List.length_replicate]
              have := H1.out.2.1
              have := HM.out
              omega
          case measure =>
            show m3 < m
            have := HM.out
            omega
    by_cases h2 : m = 2
    · obtain ⟨a, b, rfl⟩ : ∃ a b, R = [a, b] := by
        match R, hlR with
        | a :: b :: cc :: r, h => simp at h; omega
        | [], h => simp at h; omega
        | [_], h => simp at h; omega
        | [a, b], _ => exact ⟨a, b, rfl⟩
      have hmI : (2 : Int) ≤ m := by omega
      have hq3 : b64Q [a, b] = (List.range 3).map (quad (a.toNat * 65536 + b.toNat * 256 + (0 : UInt8).toNat)) ++ List.replicate 1 61 ++ b64Q [] := by rw [b64Q_two]; rfl
      obtain ⟨W1, hcp, hC⟩ := copy_three wr B (some ⟨bb, off, none⟩) m c' _ hbs (Nat.le_trans H0.out.2.2.2.2.2 hbel.size)
      rw [show min m 3 = 2 by omega] at hcp
      obtain ⟨c0, c1, c2⟩ := And.intro hC.c0 (And.intro hC.c1 hC.c2)
      simp only [List.getElem?_cons_zero, List.getElem?_cons_succ, List.getElem?_nil, Option.getD_some, Option.getD_none] at c0 c1 c2
      have hla := (a).toNat_lt
      have hlb := (b).toNat_lt
      have hlc := ((0 : UInt8)).toNat_lt
      obtain ⟨xa, hxa⟩ : ∃ xa, (a).toNat = xa := ⟨_, rfl⟩
      obtain ⟨xb, hxb⟩ : ∃ xb, (b).toNat = xb := ⟨_, rfl⟩
      obtain ⟨xc, hxc⟩ : ∃ xc, ((0 : UInt8)).toNat = xc := ⟨_, rfl⟩
      have hq4 := hq3
      rw [hxa, hxb, hxc] at hq4
      have d0 : W1.cell? ⟨wr.heap.size, 0, none⟩ = some (.int .u8 (xa : Int)) := by rw [← hxa]; exact c0
      have d1 : W1.cell? ⟨wr.heap.size, 1, none⟩ = some (.int .u8 (xb : Int)) := by rw [← hxb]; exact c1
      have d2 : W1.cell? ⟨wr.heap.size, 2, none⟩ = some (.int .u8 (xc : Int)) := by rw [← hxc]; exact c2
      clear c0 c1 c2
      rw [hxa] at hla
      rw [hxb] at hlb
      rw [hxc] at hlc
      have hor := quad_or xa xb xc hla hlb hlc
      obtain ⟨X, hX⟩ : ∃ X, xa * 65536 + xb * 256 + xc = X := ⟨_, rfl⟩
      rw [hX] at hor hq4
      have hxaI : (xa : Int) < 256 := by omega
      have hxbI : (xb : Int) < 256 := by omega
      have hxcI : (xc : Int) < 256 := by omega
      obtain ⟨m3, hm3⟩ : ∃ m3, m - 2 = m3 := ⟨_, rfl⟩
      obtain ⟨c3, hc3⟩ : ∃ c3, c' - 2 = c3 := ⟨_, rfl⟩
      obtain ⟨o3, ho3, ho3e⟩ : ∃ o3, (if c' = 2 then (some ⟨bb, off, none⟩ : Option Addr) else some ⟨bb, off + 2, none⟩) = some ⟨bb, o3, none⟩ ∧ (c' ≠ 2 → o3 = off + 2) := by
        by_cases h : c' = 2
        · exact ⟨off, by rw [if_pos h], fun h2 => absurd h h2⟩
        · exact ⟨off + 2, by rw [if_neg h], fun _ => rfl⟩
      have hbs3 : Bs wr B (some ⟨bb, o3, none⟩) m3 [] := by
        refine ⟨by rw [← hm3, ← hlR]; simp, fun h => ⟨bb, o3, rfl, hbB, fun k u hu => ?_⟩⟩
        have := hcell (k + 2) u (by simp at hu)
        rw [ho3e (by omega), show off + 2 + k = off + (k + 2) by omega]
        exact this
      have H1 := Lib.hid (And.intro hOR (And.intro hOl (And.intro hbs3 (And.intro hbd (And.intro hbel (And.intro hC.bel (And.intro hq4 (And.intro hm3 hc3))))))))
      have hmcI : (m : Int) ≤ c' := by omega
      have hdm : decide (0 < m) = true := decide_eq_true (by omega)
      have HM := Lib.hid (And.intro hm3 hc3)
      clear hOR hOl hbs hbd hbel hC hq3 hq4 hX hxa hxb hxc hla hlb hlc hcell hlR hbs3 ho3e h0 h2 h3
      have ha63 := and63b
      go_wp2
      try rw [hdm]
      clear hdm
      go_loopw [32] (fun v wy => ∃ i : Nat, v = .int .i64 (i : Int) ∧ i ≤ 3 ∧ Aside (Bd w.heap.size w.heap.size (O ++ (List.range i).map (quad X)) wy ∧ Below w.heap.size W1 wy)) (fun v _ => 4 - (intOf v).toNat)
      case atStart => exact ⟨0, rfl, by omega, (show Aside _ from ⟨by rw [List.range_zero, List.map_nil, List.append_nil]; exact H1.out.2.2.2.1.below H1.out.2.2.2.2.2.1, Below.refl _ _⟩)⟩
      case round =>
        obtain ⟨i, rfl, hi, hrel⟩ := hrel
        obtain ⟨hbd, hbel⟩ := hrel.out
        clear hrel
        by_cases hi4 : i < 3
        · obtain ⟨d, hd⟩ : ∃ d, 6 * (3 - i) = d := ⟨_, rfl⟩
          have hdI : (6 : Int) * (3 - (i : Int)) = (d : Int) := by omega
          obtain ⟨Y, hY⟩ : ∃ Y, X / 2 ^ d = Y := ⟨_, rfl⟩
          have hYI : (X : Int) / 2 ^ d = (Y : Int) := by rw [← hY]; simp
          obtain ⟨S6, hS6⟩ : ∃ S6, Y % 64 = S6 := ⟨_, rfl⟩
          have hS6I : (Y : Int) % 64 = (S6 : Int) := by omega
          have hS64 : S6 < 64 := by omega
          have hqd : quad X i = letU S6 := by unfold quad; rw [hd, hY, hS6]
          have hdb : (d : Int) ≤ 18 := by omega
          have hS64I : (S6 : Int) < 64 := by omega
          have hiI : (i : Int) < 3 := by omega
          have H2 := Lib.hid (And.intro hbd (And.intro hbel (And.intro hqd hS64)))
          clear hbd hbel hqd hd hY hS6 hS64
          go_wp2_with fail
          refine (bdByte_f w.heap.size w.heap.size _ _ wr H2.out.1 (by rw [List.length_append, List.length_map, List.length_range]; have := H1.out.2.1; omega) (Nat.le_trans (H1.out.2.2.2.2.1.trans (H1.out.2.2.2.2.2.1.mono H1.out.2.2.2.2.1.size)).size H2.out.2.1.size)).mono ?_
          rintro e w2 ⟨rfl, hbd2, hb2⟩
          have hbd3 : Bd w.heap.size w.heap.size (O ++ (List.range i).map (quad X) ++ [signsB[S6]'(H2.out.2.2.2)]) w2 := hbd2
          rw [signs_at S6 H2.out.2.2.2, ← H2.out.2.2.1] at hbd3
          have H3 := Lib.hid (And.intro hbd3 (H2.out.2.1.trans hb2))
          clear hbd2 hb2 hbd3
          go_wp2
          go_roundw
          case rel => exact ⟨i + 1, by first | rfl | go_num, by omega, (show Aside _ from ⟨by rw [List.range_succ, List.map_append, ← List.append_assoc]; exact H3.out.1, H3.out.2⟩)⟩
          case measure => simp [intOf]; omega
        · obtain rfl : i = 3 := by omega
          have hBW := Nat.le_trans (H1.out.2.2.2.2.1.trans (H1.out.2.2.2.2.2.1.mono H1.out.2.2.2.2.1.size)).size hbel.size
          have hbw : Below w.heap.size w wr := (H1.out.2.2.2.2.1.trans (H1.out.2.2.2.2.2.1.mono H1.out.2.2.2.2.1.size)).trans hbel
          have hrep : ∀ W, Calls Tryd.prog 88 #[.string ⟨#[61]⟩, .int .i64 1] W fun e w' => e = .returned (.string ⟨(List.replicate 1 (61 : UInt8)).toArray⟩) ∧ Below W.heap.size W w' := fun W => Tryd.strings_Repeat (⟨#[61]⟩ : ByteArray) 1 W (by omega) (by show 1 * 1 ≤ _; omega)
          have hbs4 : Bs wr B (some ⟨bb, o3, none⟩) m3 [] := (H1.out.2.2.1.below' H1.out.2.2.2.2.2.1 (Nat.le_trans H0.out.2.2.2.2.2 H1.out.2.2.2.2.1.size)).below' hbel H0.out.2.2.2.2.2
          obtain ⟨pad, hpad⟩ : ∃ pad : ByteArray, ⟨(List.replicate 1 (61 : UInt8)).toArray⟩ = pad := ⟨_, rfl⟩
          rw [hpad] at hrep
          have H4 := Lib.hid (And.intro hrep (And.intro hbd (And.intro hbw (And.intro hBW (And.intro hbs4 hpad)))))
          clear hrep hbd hbel hbw hBW hbs4 hi hi4 hpad
          go_wp2_with fail
          refine (H4.out.1 wr).mono ?_
          rintro e w2 ⟨rfl, b2⟩
          have hlp : pad.size = 1 := by rw [← H4.out.2.2.2.2.2]; rfl
          have H5 := Lib.hid (And.intro (H4.out.2.1.below b2) (And.intro (H4.out.2.2.1.trans (b2.mono H4.out.2.2.2.1)) ((H4.out.2.2.2.2.1.below' b2 (Nat.le_trans H0.out.2.2.2.2.2 H4.out.2.2.2.1)))))
          have hcs := bdStr_f w.heap.size w.heap.size _ pad w2 H5.out.1 (by rw [List.length_append, List.length_map, List.length_range]; have := H1.out.2.1; omega) (by rw [hlp]; omega) H5.out.2.1.size
          have HS := Lib.hid hcs
          clear b2 hlp hcs
          go_wp2_with fail
          refine HS.out.mono ?_
          rintro e w3 ⟨rfl, hbd3, b3⟩
          have H6 := Lib.hid (And.intro hbd3 (And.intro (H5.out.2.1.trans b3) (H5.out.2.2.below' b3 H0.out.2.2.2.2.2)))
          clear hbd3 b3
          go_wp2
          go_roundw
          case rel =>
            refine ⟨m3, c3, some ⟨bb, o3, none⟩, rfl, by have := HM.out; omega, by have := HM.out; omega, (show Aside _ from ⟨O ++ (List.range 3).map (quad X) ++ pad.data.toList, [], ?_, ?_, H6.out.2.2, H6.out.1, H6.out.2.1⟩)⟩
            · rw [H1.out.1, H1.out.2.2.2.2.2.2.1, ← H4.out.2.2.2.2.2]
              simp [List.append_assoc]
            · rw [← H4.out.2.2.2.2.2]
              simp only [List.length_append, List.length_map, List.length_range, List.length_replicate]
              have := H1.out.2.1
              have := HM.out
              omega
          case measure =>
            show m3 < m
            have := HM.out
            omega
    · obtain ⟨a, rfl⟩ : ∃ a, R = [a] := by
        match R, hlR with
        | a :: b :: r, h => simp at h; omega
        | [], h => simp at h; omega
        | [a], _ => exact ⟨a, rfl⟩
      have hmI : (1 : Int) ≤ m := by omega
      have hq3 : b64Q [a] = (List.range 2).map (quad (a.toNat * 65536 + (0 : UInt8).toNat * 256 + (0 : UInt8).toNat)) ++ List.replicate 2 61 ++ b64Q [] := by rw [b64Q_one]; rfl
      obtain ⟨W1, hcp, hC⟩ := copy_three wr B (some ⟨bb, off, none⟩) m c' _ hbs (Nat.le_trans H0.out.2.2.2.2.2 hbel.size)
      rw [show min m 3 = 1 by omega] at hcp
      obtain ⟨c0, c1, c2⟩ := And.intro hC.c0 (And.intro hC.c1 hC.c2)
      simp only [List.getElem?_cons_zero, List.getElem?_cons_succ, List.getElem?_nil, Option.getD_some, Option.getD_none] at c0 c1 c2
      have hla := (a).toNat_lt
      have hlb := ((0 : UInt8)).toNat_lt
      have hlc := ((0 : UInt8)).toNat_lt
      obtain ⟨xa, hxa⟩ : ∃ xa, (a).toNat = xa := ⟨_, rfl⟩
      obtain ⟨xb, hxb⟩ : ∃ xb, ((0 : UInt8)).toNat = xb := ⟨_, rfl⟩
      obtain ⟨xc, hxc⟩ : ∃ xc, ((0 : UInt8)).toNat = xc := ⟨_, rfl⟩
      have hq4 : b64Q [a] = (List.range 2).map (quad (xa * 65536 + xb * 256 + xc)) ++ List.replicate 2 61 ++ b64Q [] := by rw [← hxa, ← hxb, ← hxc]; exact hq3
      have d0 : W1.cell? ⟨wr.heap.size, 0, none⟩ = some (.int .u8 (xa : Int)) := by rw [← hxa]; exact c0
      have d1 : W1.cell? ⟨wr.heap.size, 1, none⟩ = some (.int .u8 (xb : Int)) := by rw [← hxb]; exact c1
      have d2 : W1.cell? ⟨wr.heap.size, 2, none⟩ = some (.int .u8 (xc : Int)) := by rw [← hxc]; exact c2
      clear c0 c1 c2
      rw [hxa] at hla
      rw [hxb] at hlb
      rw [hxc] at hlc
      have hor := quad_or xa xb xc hla hlb hlc
      obtain ⟨X, hX⟩ : ∃ X, xa * 65536 + xb * 256 + xc = X := ⟨_, rfl⟩
      rw [hX] at hor hq4
      have hxaI : (xa : Int) < 256 := by omega
      have hxbI : (xb : Int) < 256 := by omega
      have hxcI : (xc : Int) < 256 := by omega
      obtain ⟨m3, hm3⟩ : ∃ m3, m - 1 = m3 := ⟨_, rfl⟩
      obtain ⟨c3, hc3⟩ : ∃ c3, c' - 1 = c3 := ⟨_, rfl⟩
      obtain ⟨o3, ho3, ho3e⟩ : ∃ o3, (if c' = 1 then (some ⟨bb, off, none⟩ : Option Addr) else some ⟨bb, off + 1, none⟩) = some ⟨bb, o3, none⟩ ∧ (c' ≠ 1 → o3 = off + 1) := by
        by_cases h : c' = 1
        · exact ⟨off, by rw [if_pos h], fun h2 => absurd h h2⟩
        · exact ⟨off + 1, by rw [if_neg h], fun _ => rfl⟩
      have hbs3 : Bs wr B (some ⟨bb, o3, none⟩) m3 [] := by
        refine ⟨by rw [← hm3, ← hlR]; simp, fun h => ⟨bb, o3, rfl, hbB, fun k u hu => ?_⟩⟩
        have := hcell (k + 1) u (by simp at hu)
        rw [ho3e (by omega), show off + 1 + k = off + (k + 1) by omega]
        exact this
      have H1 := Lib.hid (And.intro hOR (And.intro hOl (And.intro hbs3 (And.intro hbd (And.intro hbel (And.intro hC.bel (And.intro hq4 (And.intro hm3 hc3))))))))
      have hmcI : (m : Int) ≤ c' := by omega
      have hdm : decide (0 < m) = true := decide_eq_true (by omega)
      have HM := Lib.hid (And.intro hm3 hc3)
      clear hOR hOl hbs hbd hbel hC hq3 hq4 hX hxa hxb hxc hla hlb hlc hcell hlR hbs3 ho3e h0 h2 h3
      have ha63 := and63b
      go_wp2
      try rw [hdm]
      clear hdm
      go_loopw [32] (fun v wy => ∃ i : Nat, v = .int .i64 (i : Int) ∧ i ≤ 2 ∧ Aside (Bd w.heap.size w.heap.size (O ++ (List.range i).map (quad X)) wy ∧ Below w.heap.size W1 wy)) (fun v _ => 4 - (intOf v).toNat)
      case atStart => exact ⟨0, rfl, by omega, (show Aside _ from ⟨by rw [List.range_zero, List.map_nil, List.append_nil]; exact H1.out.2.2.2.1.below H1.out.2.2.2.2.2.1, Below.refl _ _⟩)⟩
      case round =>
        obtain ⟨i, rfl, hi, hrel⟩ := hrel
        obtain ⟨hbd, hbel⟩ := hrel.out
        clear hrel
        by_cases hi4 : i < 2
        · obtain ⟨d, hd⟩ : ∃ d, 6 * (3 - i) = d := ⟨_, rfl⟩
          have hdI : (6 : Int) * (3 - (i : Int)) = (d : Int) := by omega
          obtain ⟨Y, hY⟩ : ∃ Y, X / 2 ^ d = Y := ⟨_, rfl⟩
          have hYI : (X : Int) / 2 ^ d = (Y : Int) := by rw [← hY]; simp
          obtain ⟨S6, hS6⟩ : ∃ S6, Y % 64 = S6 := ⟨_, rfl⟩
          have hS6I : (Y : Int) % 64 = (S6 : Int) := by omega
          have hS64 : S6 < 64 := by omega
          have hqd : quad X i = letU S6 := by unfold quad; rw [hd, hY, hS6]
          have hdb : (d : Int) ≤ 18 := by omega
          have hS64I : (S6 : Int) < 64 := by omega
          have hiI : (i : Int) < 2 := by omega
          have H2 := Lib.hid (And.intro hbd (And.intro hbel (And.intro hqd hS64)))
          clear hbd hbel hqd hd hY hS6 hS64
          go_wp2_with fail
          refine (bdByte_f w.heap.size w.heap.size _ _ wr H2.out.1 (by rw [List.length_append, List.length_map, List.length_range]; have := H1.out.2.1; omega) (Nat.le_trans (H1.out.2.2.2.2.1.trans (H1.out.2.2.2.2.2.1.mono H1.out.2.2.2.2.1.size)).size H2.out.2.1.size)).mono ?_
          rintro e w2 ⟨rfl, hbd2, hb2⟩
          have hbd3 : Bd w.heap.size w.heap.size (O ++ (List.range i).map (quad X) ++ [signsB[S6]'(H2.out.2.2.2)]) w2 := hbd2
          rw [signs_at S6 H2.out.2.2.2, ← H2.out.2.2.1] at hbd3
          have H3 := Lib.hid (And.intro hbd3 (H2.out.2.1.trans hb2))
          clear hbd2 hb2 hbd3
          go_wp2
          go_roundw
          case rel => exact ⟨i + 1, by first | rfl | go_num, by omega, (show Aside _ from ⟨by rw [List.range_succ, List.map_append, ← List.append_assoc]; exact H3.out.1, H3.out.2⟩)⟩
          case measure => simp [intOf]; omega
        · obtain rfl : i = 2 := by omega
          have hBW := Nat.le_trans (H1.out.2.2.2.2.1.trans (H1.out.2.2.2.2.2.1.mono H1.out.2.2.2.2.1.size)).size hbel.size
          have hbw : Below w.heap.size w wr := (H1.out.2.2.2.2.1.trans (H1.out.2.2.2.2.2.1.mono H1.out.2.2.2.2.1.size)).trans hbel
          have hrep : ∀ W, Calls Tryd.prog 88 #[.string ⟨#[61]⟩, .int .i64 2] W fun e w' => e = .returned (.string ⟨(List.replicate 2 (61 : UInt8)).toArray⟩) ∧ Below W.heap.size W w' := fun W => Tryd.strings_Repeat (⟨#[61]⟩ : ByteArray) 2 W (by omega) (by show 1 * 2 ≤ _; omega)
          have hbs4 : Bs wr B (some ⟨bb, o3, none⟩) m3 [] := (H1.out.2.2.1.below' H1.out.2.2.2.2.2.1 (Nat.le_trans H0.out.2.2.2.2.2 H1.out.2.2.2.2.1.size)).below' hbel H0.out.2.2.2.2.2
          obtain ⟨pad, hpad⟩ : ∃ pad : ByteArray, ⟨(List.replicate 2 (61 : UInt8)).toArray⟩ = pad := ⟨_, rfl⟩
          rw [hpad] at hrep
          have H4 := Lib.hid (And.intro hrep (And.intro hbd (And.intro hbw (And.intro hBW (And.intro hbs4 hpad)))))
          clear hrep hbd hbel hbw hBW hbs4 hi hi4 hpad
          go_wp2_with fail
          refine (H4.out.1 wr).mono ?_
          rintro e w2 ⟨rfl, b2⟩
          have hlp : pad.size = 2 := by rw [← H4.out.2.2.2.2.2]; rfl
          have H5 := Lib.hid (And.intro (H4.out.2.1.below b2) (And.intro (H4.out.2.2.1.trans (b2.mono H4.out.2.2.2.1)) ((H4.out.2.2.2.2.1.below' b2 (Nat.le_trans H0.out.2.2.2.2.2 H4.out.2.2.2.1)))))
          have hcs := bdStr_f w.heap.size w.heap.size _ pad w2 H5.out.1 (by rw [List.length_append, List.length_map, List.length_range]; have := H1.out.2.1; omega) (by rw [hlp]; omega) H5.out.2.1.size
          have HS := Lib.hid hcs
          clear b2 hlp hcs
          go_wp2_with fail
          refine HS.out.mono ?_
          rintro e w3 ⟨rfl, hbd3, b3⟩
          have H6 := Lib.hid (And.intro hbd3 (And.intro (H5.out.2.1.trans b3) (H5.out.2.2.below' b3 H0.out.2.2.2.2.2)))
          clear hbd3 b3
          go_wp2
          go_roundw
          case rel =>
            refine ⟨m3, c3, some ⟨bb, o3, none⟩, rfl, by have := HM.out; omega, by have := HM.out; omega, (show Aside _ from ⟨O ++ (List.range 2).map (quad X) ++ pad.data.toList, [], ?_, ?_, H6.out.2.2, H6.out.1, H6.out.2.1⟩)⟩
            · rw [H1.out.1, H1.out.2.2.2.2.2.2.1, ← H4.out.2.2.2.2.2]
              simp [List.append_assoc]
            · rw [← H4.out.2.2.2.2.2]
              simp only [List.length_append, List.length_map, List.length_range, List.length_replicate]
              have := H1.out.2.1
              have := HM.out
              omega
          case measure =>
            show m3 < m
            have := HM.out
            omega
end Go.Proofs.YtbclgalocipmfaaDoor
