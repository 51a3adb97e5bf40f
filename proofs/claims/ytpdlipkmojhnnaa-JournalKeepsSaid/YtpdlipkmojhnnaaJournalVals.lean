/-
  A journal's values: what lies by which key.
-/
import Derived.Test.YtpdlipkmojhnnaaJournalOthers
import Derived.Test.YtpdlipkmojhnnaaFlash
import Derived.Test.YtpdlipkmojhnnaaShelf
namespace Go.Proofs.Ytpdlipkmojhnnaa
open Go.RowKit Go.Maps Go.Shelf
set_option maxRecDepth 100000
/-- The map in the block pv holds the values V; all of it lies in blocks from lo on. -/
structure Vals (w : World) (lo : Nat) (pv : Option Nat) (D : DataW Value) (V : Int → Option (List UInt8)) : Prop where
  src : SrcOf Try.prog 3 hdr w pv D
  has : ∀ k, Maps.has D (.int .i64 k) = (V k).isSome
  at_ : ∀ k l, V k = some l → ∃ A c, D.atKey (.int .i64 k) (.held (.slice none 0 0)) = .held (.slice A l.length c) ∧ Bs w w.heap.size A l.length l ∧ l.length ≤ c ∧ ∀ a, A = some a → lo ≤ a.block
  low : ∀ b, pv = some b → lo ≤ b
  keys : ∀ k, (V k).isSome = true → 0 ≤ k ∧ k < 32
  short : ∀ k l, V k = some l → l.length ≤ 250
theorem srcOf_same {w w' : World} {pv : Option Nat} {D : DataW Value} (h : SrcOf Try.prog 3 hdr w pv D) (hk : ∀ b, pv = some b → w'.heap[b]? = w.heap[b]?) : SrcOf Try.prog 3 hdr w' pv D := by
  rcases h with h | ⟨b, n, rfl, es, clock, hb, r⟩
  · exact .inl h
  · exact .inr ⟨b, n, rfl, es, clock, (hk b rfl).trans hb, r⟩
theorem Vals.same {w w' : World} {lo : Nat} {pv : Option Nat} {D : DataW Value} {V : Int → Option (List UInt8)} (h : Vals w lo pv D V) (hs : w.heap.size ≤ w'.heap.size) (hk : ∀ b, lo ≤ b → b < w.heap.size → w'.heap[b]? = w.heap[b]?) : Vals w' lo pv D V := by
  refine ⟨srcOf_same h.src fun b hb => hk b (h.low b hb) (h.src.lt b hb), h.has, fun k l hl => ?_, h.low, h.keys, h.short⟩
  obtain ⟨A, c, h1, h2, h3, h4⟩ := h.at_ k l hl
  refine ⟨A, c, h1, ⟨h2.len, fun hn => ?_⟩, h3, h4⟩
  obtain ⟨b, off, rfl, hb, hc⟩ := h2.place hn
  refine ⟨b, off, rfl, by omega, fun j u hu => ?_⟩
  rw [← hc j u hu]
  exact World.cell?_of_block (w := w) (hk b (h4 _ rfl) hb)
theorem Vals.below {w w' : World} {lo : Nat} {pv : Option Nat} {D : DataW Value} {V : Int → Option (List UInt8)} (h : Vals w lo pv D V) (hb : Below w.heap.size w w') : Vals w' lo pv D V :=
  h.same hb.size fun b _ hl => hb.block b hl
theorem Vals.but3 {w w' : World} {lo : Nat} {pv : Option Nat} {D : DataW Value} {V : Int → Option (List UInt8)} {g bb wb : Nat} (h : Vals w lo pv D V) (hb : But3 w.heap.size g bb wb w w') (hg : g < lo ∧ bb < lo ∧ wb < lo) : Vals w' lo pv D V :=
  h.same hb.size fun b h1 hl => hb.block b hl (by omega) (by omega) (by omega)
/-- The look-up of a key, told whether it is there. -/
theorem hdr_look {w : World} {pv : Option Nat} {D : DataW Value} (hs : SrcOf Try.prog 3 hdr w pv D) (key : Int) (hk : (Lit.int .i64 key).wf = true) :
    ∃ v, (Instr.lookup 57 (.map pv) (.int .i64 key) true).run Try.prog w = .ok (.tuple #[v, .bool (Maps.has D (.int .i64 key))]) w ∧ .held v = D.atKey (.int .i64 key) (.held (.slice none 0 0)) := by
  rcases hs with ⟨rfl, rfl⟩ | ⟨b, n, rfl, ho⟩
  · exact ⟨.slice none 0 0, Maps.look_nil true law3 Try.underlying57 (Try.zeroValue35 _) (keyOf_int_mk Try.underlying3 hk), rfl⟩
  · obtain ⟨v, ps, hrun, hv⟩ := ho.look_ok law3 Try.underlying57 (Try.zeroValue35 _) (zd := .held (.slice none 0 0)) (zp := []) rfl (keyOf_int_mk Try.underlying3 hk)
    exact ⟨v, hrun, (Prod.ext_iff.1 (Option.some.inj hv)).1⟩
set_option maxRecDepth 100000 in
/-- Get. -/
theorem jget_f (jb lo : Nat) (pv : Option Nat) (D : DataW Value) (V : Int → Option (List UInt8)) (key : Int) (w : World) (hv : w.cell? ⟨jb, 6, none⟩ = some (.map pv)) (h : Vals w lo pv D V) (hk : (Lit.int .i64 key).wf = true) :
    Calls Try.prog 18 #[.pointer (some ⟨jb, 0, none⟩), .int .i64 key] w fun e w' => ∃ v, e = .returned (.tuple #[v, .bool (V key).isSome]) ∧ w'.ownsRow w.heap.size 5 1 v ((V key).getD []).length (U8 ((V key).getD [])) ∧ Below w.heap.size w w' := by
  obtain ⟨v, hl, hat⟩ := hdr_look h.src key hk
  rw [h.has key] at hl
  have hcl : Calls Try.prog 33 #[v] w fun e w' => ∃ v', e = .returned v' ∧ w'.ownsRow w.heap.size 5 1 v' ((V key).getD []).length (U8 ((V key).getD [])) ∧ Below w.heap.size w w' := by
    cases hV : V key with
    | none =>
      have hn := h.has key
      rw [hV] at hn
      rw [atKey_of_not_has hn] at hat
      cases hat
      refine (Try.bytes_Clone_nil 0 0 w).mono ?_
      rintro e w' ⟨rfl, hw⟩
      subst hw
      exact ⟨_, rfl, World.ownsRow_nil _ _ _ _, Below.refl _ _⟩
    | some l =>
      obtain ⟨A, c, h1, h2, h3, h4⟩ := h.at_ key l hV
      rw [h1] at hat
      cases hat
      have hsh := h.short key l hV
      cases A with
      | none =>
        have h0 : l = [] := by
          cases l with
          | nil => rfl
          | cons x r => obtain ⟨b, off, e, _⟩ := h2.place (by simp); cases e
        subst h0
        refine (Try.bytes_Clone_nil _ c w).mono ?_
        rintro e w' ⟨rfl, hw⟩
        subst hw
        exact ⟨_, rfl, World.ownsRow_nil _ _ _ _, Below.refl _ _⟩
      | some a =>
        refine (Try.bytes_Clone_at a l.length c (l.map fun u => (u.toNat : Int)) w (by simp) (by omega) ?_).mono ?_
        · intro i hi
          obtain ⟨b, off, e, _, hc⟩ := h2.place (by omega)
          cases e
          have := hc i l[i] (List.getElem?_eq_getElem hi)
          rw [Addr.add_lit, this]
          simp [List.getD, hi]
        · rintro e w' ⟨v', rfl, ho, _, hb⟩
          refine ⟨v', rfl, ?_, hb⟩
          rw [List.map_map] at ho
          exact ho
  go_enter Try.func18, Try.ntmps18
  go_wp2_with fail
  refine hcl.mono ?_
  rintro e w' ⟨v', rfl, ho, hb⟩
  go_wp2
  go_ret2
  exact ⟨v', rfl, ho, hb⟩
end Go.Proofs.Ytpdlipkmojhnnaa
