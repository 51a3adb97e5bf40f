/-
  The values of a number.
-/
import Derived.Test.YtdgihhepmmkkpaaOptGet
namespace Go.Proofs.Ytdgihhepmmkkpaa
open Go.RowKit
set_option maxRecDepth 100000
set_option linter.unusedVariables false
def getB (num : Int) (ps : List (Int × List UInt8)) : List UInt8 × Bool := match ps.find? (fun x => x.1 == num) with | some x => (x.2, true) | none => ([], false)
/-- Bytes in rows of the call's own. -/
def Rb (w : World) (base : Nat) (us : List Value) (ls : List (List UInt8)) : Prop :=
  us.length = ls.length ∧ ∀ (i : Nat) (u : Value) (l : List UInt8), us[i]? = some u → ls[i]? = some l → w.ownsRow base 5 1 u l.length (U8 l)
theorem Rb.kept {w w' : World} {base : Nat} {us : List Value} {ls : List (List UInt8)} (h : Rb w base us ls) (h2 : ∀ (g : Nat) (cs : Array Value), w.heap[g]? = some (.cells cs 5 (0, 0)) → w'.heap[g]? = w.heap[g]?) : Rb w' base us ls :=
  ⟨h.1, fun i u l hu hl => row_kept (h.2 i u l hu hl) fun g cs _ hb => h2 g cs hb⟩
theorem Rb.below {w w' : World} {base : Nat} {us : List Value} {ls : List (List UInt8)} (h : Rb w base us ls) (hb : Below w.heap.size w w') : Rb w' base us ls := h.kept fun g cs hg => hb.block g (Array.getElem?_eq_some_iff.1 hg).1
theorem Rb.grown {w w' : World} {base n : Nat} {us : List Value} {ls : List (List UInt8)} {v : Value} {xs : List Value} (h : Rb w base us ls) (ho : w.ownsRow base 22 1 v n xs) (hg : w.grownBy w' v.ownBlock) : Rb w' base us ls := h.kept fun g cs hb => hg.block g (Array.getElem?_eq_some_iff.1 hb).1 (fun e => by
  rcases ho.2 with ⟨rfl, _⟩ | ⟨g', cap, cur, rfl, _, h4, _⟩
  · cases e
  · have e' : g = g' := by injection e
    subst e'
    rw [hb] at h4
    injection h4 with h4
    injection h4 with _ h4
    exact absurd h4 (by decide))
theorem Rb.push {w : World} {base : Nat} {us : List Value} {ls : List (List UInt8)} {u : Value} {l : List UInt8} (h : Rb w base us ls) (hu : w.ownsRow base 5 1 u l.length (U8 l)) : Rb w base (us ++ [u]) (ls ++ [l]) := by
  refine ⟨by simp [h.1], fun i t y ht hy => ?_⟩
  have hl := h.1
  by_cases hi : i < us.length
  · rw [List.getElem?_append_left hi] at ht
    rw [List.getElem?_append_left (by omega)] at hy
    exact h.2 i t y ht hy
  · have hi2 : i = us.length := by
      have := (List.getElem?_eq_some_iff.1 ht).1
      simp at this; omega
    subst hi2
    rw [List.getElem?_append_right (Nat.le_refl _), Nat.sub_self] at ht
    rw [hl, List.getElem?_append_right (Nat.le_refl _), Nat.sub_self] at hy
    obtain rfl := Option.some.inj ht
    obtain rfl := Option.some.inj hy
    exact hu
theorem Rb.pc {w : World} {base n : Nat} {us : List Value} {ls : List (List UInt8)} {v : Value} (h : Rb w base us ls) (ho : w.ownsRow base 22 1 v n us) : ∃ A c, v = .slice A n c ∧ n ≤ c ∧ Pc w w.heap.size A n ls := by
  have hul : us.length = n := by have := ho.1; omega
  have ho' := ho
  rcases ho.2 with ⟨rfl, hn⟩ | ⟨g, cap, cur, rfl, hbg, hg, hnc, _, hcs, htake⟩
  · subst hn
    have : ls = [] := List.eq_nil_of_length_eq_zero (by rw [← h.1, hul])
    subst this
    exact ⟨none, 0, rfl, Nat.le_refl _, Pc.none _ _ _⟩
  · refine ⟨_, cap, rfl, hnc, by rw [← h.1, hul], fun hn => ⟨g, 0, rfl, (Array.getElem?_eq_some_iff.1 hg).1, fun i l hl => ?_⟩⟩
    have hil := (List.getElem?_eq_some_iff.1 hl).1
    obtain ⟨u, hu⟩ : ∃ u, us[i]? = some u := ⟨_, List.getElem?_eq_getElem (by rw [h.1]; exact hil)⟩
    obtain ⟨A', c', rfl, hc', hb⟩ := Bs.of_own (h.2 i u l hu hl)
    exact ⟨A', _, c', by rw [Nat.zero_add, ho'.cellAt i (by rw [h.1] at hul; omega)]; exact hu, hc', hb⟩
theorem info_sl : (Try.prog.info? 22).map (fun i => (i.zero, i.size, i.bytes)) = some (some (.slice none 0 0), 1, 24) := by kernel_rfl
def allO (num : Int) (ps : List (Int × List UInt8)) : List (List UInt8) := (ps.filter fun x => x.1 == num).map (·.2)
theorem allO_step {num : Int} {ps : List (Int × List UInt8)} {k : Nat} {x : Int × List UInt8} (h : ps[k]? = some x) : allO num (ps.take (k + 1)) = allO num (ps.take k) ++ (if (x.1 == num) = true then [x.2] else []) := by
  unfold allO
  rw [List.take_add_one, h, List.filter_append, List.map_append]
  congr 1
  cases e : (x.1 == num) <;> simp [List.filter, e]
/-- Pieces returned. -/
def RetPc (ls : List (List UInt8)) (w : World) (e : Ending) (w' : World) : Prop :=
  ∃ A n c, e = .returned (.slice A n c) ∧ n ≤ c ∧ Hid (n = ls.length) ∧ Pc w' w'.heap.size A n ls ∧ Below w.heap.size w w'
theorem cap_cell {w : World} {b : Nat} {num : Int} (h : w.heap[b]? = some (.cells #[.int .i64 num] 3 (0, 0))) : b < w.heap.size ∧ w.cell? ⟨b, 0, none⟩ = some (.int .i64 num) :=
  ⟨(Array.getElem?_eq_some_iff.1 h).1, by rw [cell_of_row _ _ _ _ _ _ h]; rfl⟩
theorem cap_ne {w : World} {b base size n : Nat} {num : Int} {e : TypeId} {v : Value} {xs : List Value} (h : w.heap[b]? = some (.cells #[.int .i64 num] 3 (0, 0))) (ho : w.ownsRow base e size v n xs) (he : e ≠ 3) : some b ≠ v.ownBlock := fun e1 => by
  rcases ho.2 with ⟨rfl, _⟩ | ⟨g', cap, cur, rfl, _, h4, _⟩
  · cases e1
  · have e' : b = g' := by injection e1
    subst e'
    rw [h] at h4
    injection h4 with h4
    injection h4 with _ h4
    exact he h4.symm
end Go.Proofs.Ytdgihhepmmkkpaa
