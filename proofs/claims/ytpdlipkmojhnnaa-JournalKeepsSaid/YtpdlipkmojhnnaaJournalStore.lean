/-
  A key's value laid into a journal's map: no array of bytes is the map's block.
-/
import Derived.Test.YtpdlipkmojhnnaaJournalDrop
namespace Go.Proofs.Ytpdlipkmojhnnaa
open Go.RowKit Go.Maps Go.Shelf
set_option maxRecDepth 100000
theorem map_no_cell {w : World} {b n : Nat} {D : DataW Value} (h : w.ownsMap Try.prog 3 hdr b n D) (j : Nat) (u : Value) : w.cell? ⟨b, j, none⟩ ≠ some u := by
  obtain ⟨es, clock, hb, _⟩ := h
  unfold World.cell?
  rw [hb]
  intro e
  cases e
theorem bs_past {w w' : World} {b n m : Nat} {D : DataW Value} {A : Option Addr} {l : List UInt8} (h : w.ownsMap Try.prog 3 hdr b n D) (hb : Bs w w.heap.size A m l) (hg : w.grownBy w' (some b)) : Bs w' w'.heap.size A m l :=
  ⟨hb.len, fun hm => by
    obtain ⟨g, off, rfl, hl, hc⟩ := hb.place hm
    have hlen := hb.len
    have hgb : g ≠ b := fun e => by
      subst e
      exact map_no_cell h _ _ (hc 0 l[0] (List.getElem?_eq_getElem (by omega)))
    refine ⟨g, off, rfl, Nat.lt_of_lt_of_le hl hg.size, fun k u hu => ?_⟩
    rw [← hc k u hu]
    exact World.cell?_of_block (w := w) (hg.block g hl (fun e => hgb (Option.some.inj e)))⟩
/-- What a store leaves. -/
theorem Vals.store {w w' : World} {lo b n n0 : Nat} {D : DataW Value} {V : Int → Option (List UInt8)} (h : Vals w lo (some b) D V) (h0 : w.ownsMap Try.prog 3 hdr b n0 D) (key : Int) (A : Option Addr) (c : Nat) (l : List UInt8)
    (ho : w'.ownsMap Try.prog 3 hdr b n (D.put (.int .i64 key) (.held (.slice A l.length c)))) (hg : w.grownBy w' (some b)) (hb : Bs w w.heap.size A l.length l) (hc : l.length ≤ c) (hlo : ∀ a, A = some a → lo ≤ a.block) (hk0 : 0 ≤ key) (hk1 : key < 32) (hl : l.length ≤ 250) :
    Vals w' lo (some b) (D.put (.int .i64 key) (.held (.slice A l.length c))) (putV V key l) := by
  have hm : IsMap D := h0.isMap
  have hkey : WideAt.IsKeyLit (.int .i64 key) := trivial
  refine ⟨.inr ⟨b, n, rfl, ho⟩, fun k => ?_, fun k l' hl' => ?_, h.low, fun k hk => ?_, fun k l' hl' => ?_⟩
  · unfold putV
    by_cases e : k = key
    · subst e; rw [has_put_same hm hkey, if_pos rfl]; rfl
    · rw [has_put_other (int_ne e), if_neg e, h.has]
  · unfold putV at hl'
    by_cases e : k = key
    · subst e
      rw [if_pos rfl] at hl'
      cases hl'
      rw [atKey_put_same hm hkey]
      exact ⟨A, c, rfl, bs_past h0 hb hg, hc, hlo⟩
    · rw [if_neg e] at hl'
      rw [atKey_put_other (int_ne e)]
      obtain ⟨A', c', h1, h2, h3, h4⟩ := h.at_ k l' hl'
      exact ⟨A', c', h1, bs_past h0 h2 hg, h3, h4⟩
  · unfold putV at hk
    by_cases e : k = key
    · subst e; exact ⟨hk0, hk1⟩
    · rw [if_neg e] at hk; exact h.keys k hk
  · unfold putV at hl'
    by_cases e : k = key
    · rw [if_pos e] at hl'; cases hl'; exact hl
    · rw [if_neg e] at hl'; exact h.short k l' hl'
theorem bytes_in {w : World} {B n : Nat} {A : Option Addr} {l : List UInt8} (h : Bs w B A n l) : Lib.BytesIn w A n (l.map fun u => (u.toNat : Int)) := fun hn => by
  obtain ⟨b, off, rfl, _, hc⟩ := h.place hn
  refine ⟨b, off, rfl, fun i hi => ?_⟩
  have hlen := h.len
  rw [hc i l[i] (List.getElem?_eq_getElem (by omega))]
  simp [List.getD, show i < l.length by omega]
theorem bytesOf_back (l : List UInt8) : Lib.bytesOf (l.map fun u => (u.toNat : Int)) = l := by
  unfold Lib.bytesOf
  rw [List.map_map]
  exact (List.map_congr_left (fun u _ => by simp)).trans (List.map_id l)
/-- Are two rows of bytes the same? -/
theorem equal_f (w : World) (A1 A2 : Option Addr) (n1 n2 c1 c2 : Nat) (l1 l2 : List UInt8) (h1 : Bs w w.heap.size A1 n1 l1) (h2 : Bs w w.heap.size A2 n2 l2) :
    Calls Try.prog 27 #[.slice A1 n1 c1, .slice A2 n2 c2] w fun e w' => e = .returned (.bool (decide (l1 = l2))) ∧ w' = w := by
  refine (Try.bytes_Equal_all A1 A2 n1 c1 n2 c2 (l1.map fun u => (u.toNat : Int)) (l2.map fun u => (u.toNat : Int)) w (by rw [List.length_map]; exact h1.len) (by rw [List.length_map]; exact h2.len) (bytes_in h1) (bytes_in h2)).mono ?_
  rintro e w' ⟨rfl, hw⟩
  refine ⟨?_, hw⟩
  rw [bytesOf_back, bytesOf_back]
  by_cases e : l1 = l2
  · subst e; simp
  · rw [decide_eq_false e, beq_eq_false_iff_ne.2 e]
end Go.Proofs.Ytpdlipkmojhnnaa
