/-
  The document's digits of a digest.
-/
import Derived.Deep.RegionHeld3
import Derived.Test.YthdnlcllcdcjhaaDoorShaHex
import Derived.Test.YthdnlcllcdcjhaaDoorShaKeeps
namespace Go.Proofs.YthdnlcllcdcjhaaDoor
open Go.RowKit
theorem hexd_low : ∀ n : Nat, n < 10 → ((hexd n).toNat : Int) = 48 + (n : Int) := by decide +kernel
theorem hexd_high : ∀ n : Nat, n < 16 → 10 ≤ n → ((hexd n).toNat : Int) = 97 + (n : Int) - 10 := by decide +kernel
section
variable {P : Program} {w : World} {ops : Array Oper} {rest : List Oper} {o : Oper} {a : Act} {Q : Exit → Act → World → Prop}
/-- A byte behind bytes of the call's own: which block the row lies in behind it is told. -/
theorem wpList_append_byte (hgd : o.guard = none) (s x : Operand) (t : TypeId)
    (ho : o.op = .call { callee := .builtin .append, args := #[s, x], argTypes := #[t, t] })
    (base : Nat) (e : TypeId) (i : TypeInfo) (ht : P.underlying t = some (.slice e)) (hi : P.info? e = some i) (hz : i.zero = some (.int .u8 0))
    (hsize : i.size = 1) (hby : i.bytes = 1) (v : Value) (n : Nat) (xs : List Value) (hs : a.eval s = v) (hown : w.ownsRow base e 1 v n xs)
    (B : Nat) (u : Value) (hx : a.eval x = .slice (some ⟨B, 0, none⟩) 1 1) (hb : w.heap[B]? = some (.cells #[u] e (0, 0))) (h1 : u.oneCell' = true) (hnm : n + 1 ≤ 140737488355328) (hbase : base ≤ w.heap.size)
    (h : ∀ g cap w', w'.ownsRow base e 1 (.slice (some ⟨g, 0, none⟩) (n + 1) cap) (n + 1) (xs ++ [u]) → w.grownBy w' v.ownBlock → (v.ownBlock = some g ∨ g = w.heap.size) → g < w'.heap.size → wpList P ops Q rest (a.put o.dst (.slice (some ⟨g, 0, none⟩) (n + 1) cap)) w') : wpList P ops Q (o :: rest) a w :=
  wpList_plain hgd fun _ hK => wp_append_lies w s x t ho base e i _ 1 1 ht hi hz hsize hby rfl (by omega) v n xs hs hown ⟨B, 0, none⟩ 1 1 [u] hx rfl (World.news_of_block (fr := (0, 0)) hb) (by simpa using h1) (by omega) (by simp only [maxLen]; omega) (by omega) hbase w.heap.size rfl fun g cap w' h2 h3 h4 h5 => hK _ _ (h g cap w' h2 h3 h4 h5)
end
set_option maxRecDepth 100000 in
set_option maxHeartbeats 800000 in
theorem rhex_any (w : World) (l : List UInt8) (hl : l.length = 32) : Calls Tryd.prog 21 #[.agg (U8 l).toArray] w fun e w' => e = .returned (.string ⟨(hexOf l).toArray⟩) ∧ Below w.heap.size w w' := by
  obtain ⟨i0, hi0, hz0, hz1, hz2⟩ := info_parts info_u8
  have harr := size_U8 hl
  go_enter Tryd.func21, Tryd.ntmps21
  go_wp2_with fail
  refine wp_at_world (F := fun W => W.ownsRow (w.heap.size + 1) 5 1 (.slice (some ⟨w.heap.size + 1, 0, none⟩) 0 0) 0 (U8 []) ∧ Below (w.heap.size + 1) (w.alloc (.cells (U8 l).toArray 25)) W) ⟨?_, (Below.refl _ _).alloc (by simp) _⟩ ?_
  · have h := World.ownsRow_lit (e := 5) (base := w.heap.size + 1) (w.alloc (.cells (U8 l).toArray 25)) #[] 0 (size := 1) (by simp) (by simp [maxLen]) rfl
    rw [alloc_size] at h
    exact h
  rintro W1 ⟨hown, hb1⟩
  have hD : ∀ k x, l[k]? = some x → (w.alloc (.cells (U8 l).toArray 25)).cell? ⟨w.heap.size, k, none⟩ = some (.int .u8 ((x : UInt8).toNat : Int)) := fun k x hx => by
    rw [cell_of_row _ _ _ _ _ _ (heap_alloc_new w _), List.getElem?_toArray, U8_get, hx]; rfl
  have hD := Lib.hid hD
  generalize hv : (U8 l).toArray = arr at *
  clear hv
  go_loopw [4, 3] (fun i v wr => ∃ k : Nat, (k : Int) ≤ 32 ∧ i = .int .i64 k ∧ wr.ownsRow (w.heap.size + 1) 5 1 v (2 * k) (U8 (hexOf (l.take k))) ∧ Below (w.heap.size + 1) (w.alloc (.cells arr 25)) wr) (fun i _ _ => 32 - (intOf i).toNat)
  case atStart => exact ⟨0, by omega, rfl, hown, hb1⟩
  case round =>
    clear hown hb1
    obtain ⟨k, hk, rfl, hown, hbel⟩ := hrel
    have hsz : w.heap.size + 1 ≤ wr.heap.size := by have := hbel.size; rwa [alloc_size] at this
    by_cases hlt : (k : Int) < 32
    · obtain ⟨x, hx⟩ := byte_get (l := l) (k := k) (by omega)
      have hck : wr.cell? ⟨w.heap.size, k, none⟩ = some (.int .u8 (x.toNat : Int)) := (hbel.cell (p := ⟨w.heap.size, k, none⟩) (Nat.lt_succ_self _)).trans (hD.out k x hx)
      have hk0 : (0 : Int) ≤ (k : Int) := by omega
      have hxb := byte_lt x
      have Hx := Lib.hid hx
      clear hx
      obtain ⟨a, ha, ha16, hqa⟩ : ∃ a : Nat, Hid (a = x.toNat / 16) ∧ a < 16 ∧ IntKind.u8.wrap ((x.toNat : Int) / 16) = (a : Int) := ⟨x.toNat / 16, Lib.hid rfl, by omega, by rw [IntKind.wrap_u8]; omega⟩
      obtain ⟨b, hb, hb16, hqb⟩ : ∃ b : Nat, Hid (b = x.toNat % 16) ∧ b < 16 ∧ (x.toNat : Int).tmod 16 = (b : Int) := ⟨x.toNat % 16, Lib.hid rfl, by omega, by rw [Int.tmod_eq_emod_of_nonneg (by omega)]; omega⟩
      go_wp2
      go_region_held3 (fun w' => w'.cell? ⟨w.heap.size, k, none⟩ = some (.int .u8 (x.toNat : Int))) (go_keep) (fail)
      have hrow : ((wr.alloc (.cells #[.int .u8 (a : Int), .int .u8 (b : Int)] 5)).drew).heap[wr.heap.size]? = some (.cells #[.int .u8 (a : Int), .int .u8 (b : Int)] 5 (0, 0)) := heap_alloc_new wr _
      have hc0 : ((wr.alloc (.cells #[.int .u8 (a : Int), .int .u8 (b : Int)] 5)).drew).cell? ⟨wr.heap.size, 0, none⟩ = some (.int .u8 (a : Int)) := by rw [cell_of_row _ _ _ _ _ _ hrow]; rfl
      have hc1 : ((wr.alloc (.cells #[.int .u8 (a : Int), .int .u8 (b : Int)] 5)).drew).cell? ⟨wr.heap.size, 1, none⟩ = some (.int .u8 (b : Int)) := by rw [cell_of_row _ _ _ _ _ _ hrow]; rfl
      have hown2 := (hown.alloc (.cells #[.int .u8 (a : Int), .int .u8 (b : Int)] 5)).drew
      have hbel2 := (hbel.alloc hsz (.cells #[.int .u8 (a : Int), .int .u8 (b : Int)] 5)).drew
      have hs2 : wr.heap.size < ((wr.alloc (.cells #[.int .u8 (a : Int), .int .u8 (b : Int)] 5)).drew).heap.size := by show _ < (wr.alloc _).heap.size; rw [alloc_size]; exact Nat.lt_succ_self _
      have hvq0 : ∀ g, u3.ownBlock = some g → g < wr.heap.size := fun g hg => (hown.lt g hg).2
      generalize hq : wr.heap.size = q at *
      clear hck hown hbel hrow hq
      go_wp2
      go_loopw [22, 3] (fun i v wr2 => ∃ j : Nat, j ≤ 2 ∧ i = .int .i64 j ∧ wr2.ownsRow (w.heap.size + 1) 5 1 v (2 * k + j) (U8 (hexOf (l.take k) ++ [hexd a, hexd b].take j)) ∧ v.ownBlock ≠ some q ∧ wr2.cell? ⟨q, 0, none⟩ = some (.int .u8 (a : Int)) ∧ wr2.cell? ⟨q, 1, none⟩ = some (.int .u8 (b : Int)) ∧ Below (w.heap.size + 1) (w.alloc (.cells arr 25)) wr2 ∧ q < wr2.heap.size) (fun i _ _ => 2 - (intOf i).toNat)
      case atStart => exact ⟨0, by omega, rfl, by simpa using hown2, fun e => Nat.lt_irrefl _ (hvq0 q e), hc0, hc1, hbel2, hs2⟩
      case round =>
        clear hown2 hc0 hc1 hbel2 hs2 hvq0
        obtain ⟨j, hj, rfl, hown, hvq, h0, h1, hb2, hq2⟩ := hrel
        by_cases hj2 : (j : Int) < 2
        · obtain ⟨z, hz16, hcz, htake⟩ : ∃ z : Nat, z < 16 ∧ wr.cell? ⟨q, j, none⟩ = some (.int .u8 (z : Int)) ∧ [hexd a, hexd b].take (j + 1) = [hexd a, hexd b].take j ++ [hexd z] := by
            rcases (by omega : j = 0 ∨ j = 1) with rfl | rfl
            · exact ⟨a, ha16, h0, rfl⟩
            · exact ⟨b, hb16, h1, rfl⟩
          have htk := Lib.hid htake
          clear htake
          have hzi : (z : Int) < 16 := by omega
          have hj0 : (0 : Int) ≤ (j : Int) := by omega
          by_cases h10 : (z : Int) < 10
          · have hlow := hexd_low z (by omega)
            go_wp2_with (at_builtin; refine wpList_append_byte rfl (.tmp 28) (.tmp 31) 27 rfl (w.heap.size + 1) 5 i0 Tryd.underlying27 hi0 hz0 hz1 hz2 _ (2 * k + j) _ rfl (hown.alloc _) wr.heap.size (.int .u8 (48 + (z : Int))) rfl (heap_alloc_new wr _) rfl (by omega) (by rw [alloc_size]; omega) ?_; intro g cap w3 hown1 hgrow hat hg3)
            have htake := htk.out
            rw [← hlow, show [Value.int .u8 ((hexd z).toNat : Int)] = U8 [hexd z] from rfl, ← U8_append, List.append_assoc, ← htake] at hown1
            go_roundw
            case rel =>
              have hne : some q ≠ u3.ownBlock := fun e => hvq e.symm
              have hsz2 : ∀ o, (wr.alloc o).heap.size = wr.heap.size + 1 := fun o => alloc_size _ _
              refine ⟨j + 1, by omega, by go_num, hown1, fun e => ?_, ?_, ?_, (hb2.alloc (by omega) _).grown hgrow (by rw [hsz2]; omega) (own_ge hown), by have := hgrow.size; rw [hsz2] at this; omega⟩
              · injection e with e
                rcases hat with h | h
                · exact hvq (show u3.ownBlock = some q from (show u3.ownBlock = some g from h).trans (congrArg some e))
                · rw [hsz2] at h; simp only at e; omega
              · rw [hgrow.cell_far ⟨q, 0, none⟩ (by rw [hsz2]; show q < _; omega) hne, World.cell?_alloc_lt _ _ _ (by show q < _; omega)]; exact h0
              · rw [hgrow.cell_far ⟨q, 1, none⟩ (by rw [hsz2]; show q < _; omega) hne, World.cell?_alloc_lt _ _ _ (by show q < _; omega)]; exact h1
            case measure => simp [intOf]; omega
          · have hhigh := hexd_high z hz16 (by omega)
            go_wp2_with (at_builtin; refine wpList_append_byte rfl (.tmp 33) (.tmp 37) 27 rfl (w.heap.size + 1) 5 i0 Tryd.underlying27 hi0 hz0 hz1 hz2 _ (2 * k + j) _ rfl (hown.alloc _) wr.heap.size (.int .u8 (97 + (z : Int) - 10)) rfl (heap_alloc_new wr _) rfl (by omega) (by rw [alloc_size]; omega) ?_; intro g cap w3 hown1 hgrow hat hg3)
            have htake := htk.out
            rw [← hhigh, show [Value.int .u8 ((hexd z).toNat : Int)] = U8 [hexd z] from rfl, ← U8_append, List.append_assoc, ← htake] at hown1
            go_roundw
            case rel =>
              have hne : some q ≠ u3.ownBlock := fun e => hvq e.symm
              have hsz2 : ∀ o, (wr.alloc o).heap.size = wr.heap.size + 1 := fun o => alloc_size _ _
              refine ⟨j + 1, by omega, by go_num, hown1, fun e => ?_, ?_, ?_, (hb2.alloc (by omega) _).grown hgrow (by rw [hsz2]; omega) (own_ge hown), by have := hgrow.size; rw [hsz2] at this; omega⟩
              · injection e with e
                rcases hat with h | h
                · exact hvq (show u3.ownBlock = some q from (show u3.ownBlock = some g from h).trans (congrArg some e))
                · rw [hsz2] at h; simp only at e; omega
              · rw [hgrow.cell_far ⟨q, 0, none⟩ (by rw [hsz2]; show q < _; omega) hne, World.cell?_alloc_lt _ _ _ (by show q < _; omega)]; exact h0
              · rw [hgrow.cell_far ⟨q, 1, none⟩ (by rw [hsz2]; show q < _; omega) hne, World.cell?_alloc_lt _ _ _ (by show q < _; omega)]; exact h1
            case measure => simp [intOf]; omega
        · obtain rfl : j = 2 := by omega
          have hcat : hexOf (l.take k) ++ [hexd a, hexd b].take 2 = hexOf (l.take (k + 1)) := by
            rw [hex_take l k x Hx.out, ← ha.out, ← hb.out]; rfl
          rw [hcat] at hown
          go_wp2
          go_roundw
          case rel => exact ⟨k + 1, by omega, by go_num, by rw [show 2 * (k + 1) = 2 * k + 2 by omega]; exact hown, hb2⟩
          case measure => simp [intOf]; omega
    · obtain rfl : k = 32 := by omega
      rw [List.take_of_length_le (by omega)] at hown
      obtain ⟨A, c, rfl, hc, hbs⟩ := Bs.of_own hown
      have hstr := run_string_bs (P := Tryd.prog) hbs 27 9 5 c Tryd.underlying27 Tryd.underlying5 Tryd.underlying9
      go_wp2
      go_ret
      exact ⟨rfl, (alloc_below w _).trans (hbel.mono (Nat.le_succ _))⟩
end Go.Proofs.YthdnlcllcdcjhaaDoor
