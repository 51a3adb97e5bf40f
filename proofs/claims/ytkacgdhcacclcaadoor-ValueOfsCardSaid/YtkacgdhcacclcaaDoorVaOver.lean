/-
  Bytes written over; short; what the line in the middle of ValueBack leaves.
-/
import Derived.Test.YtkacgdhcacclcaaDoorVaMust
import Derived.Test.YtkacgdhcacclcaaDoorVaWiresLaw
import Derived.Test.YtkacgdhcacclcaaDoorVaSame
import Derived.Test.YtkacgdhcacclcaaDoorVaWire
namespace Go.Proofs.YtkacgdhcacclcaaDoor
open Go.RowKit
set_option maxRecDepth 100000
set_option linter.unusedVariables false
set_option linter.unusedSimpArgs false
/-- A row that may be written over. -/
def WrB (w : World) (b : Nat) (A : Option Addr) (n : Nat) : Prop :=
  0 < n → ∃ g o, A = some ⟨g, o, none⟩ ∧ b ≤ g ∧ w.there g o n ∧ ∀ j, j < n → ∃ z, w.cell? ⟨g, o + j, none⟩ = some (.int .u8 z)
theorem NewB.wr {w : World} {b n : Nat} {A : Option Addr} {l : List UInt8} (h : NewB w b A n l) : WrB w b A n := by
  intro hn
  obtain ⟨g, o, rfl, hg, hc⟩ := h.bs.place hn
  refine ⟨g, o, rfl, h.fresh _ rfl, h.there g o rfl hn, fun j hj => ?_⟩
  obtain ⟨u, hu⟩ := byte_get (l := l) (k := j) (by rw [h.bs.len]; exact hj)
  exact ⟨_, hc j u hu⟩
/-- What is left behind while a row is written over. -/
structure Ov (b : Nat) (A : Option Addr) (n : Nat) (w wr : World) : Prop where
  low : Below b w wr
  size : wr.heap.size = w.heap.size
  off : ∀ p : Addr, (0 < n → ∀ ad, A = some ad → p.block ≠ ad.block) → wr.cell? p = w.cell? p
  there : ∀ g o n, w.there g o n → wr.there g o n
  wr : WrB wr b A n
theorem Ov.first {b n : Nat} {A : Option Addr} {w : World} (h : WrB w b A n) : Ov b A n w w := ⟨Below.refl _ _, rfl, fun _ _ => rfl, fun _ _ _ h => h, h⟩
theorem Ov.set {b n g o : Nat} {w wr : World} (h : Ov b (some ⟨g, o, none⟩) n w wr) (j : Nat) (hj : j < n) (z : Int) : Ov b (some ⟨g, o, none⟩) n w (wr.setCell ⟨g, o + j, none⟩ (.int .u8 z)) := by
  obtain ⟨g', o', e, hb, ht, hc⟩ := h.wr (by omega)
  injection e with e
  injection e with e1 e2
  subst e1 e2
  refine ⟨h.low.setCell hb _, by rw [World.size_setCell]; exact h.size, fun p hp => ?_, fun a o n ht => there_set (h.there a o n ht) _ _, ?_⟩
  · rw [World.cell?_setCell_other _ _ _ _ (fun e => hp (by omega) _ rfl (by rw [← e]))]
    exact h.off p hp
  · intro hn
    refine ⟨_, _, rfl, hb, there_set ht _ _, fun i hi => ?_⟩
    by_cases hij : i = j
    · subst hij
      exact ⟨z, World.cell?_setCell_same' _ _ _ (ht i hi).1⟩
    · obtain ⟨z2, hz2⟩ := hc i hi
      exact ⟨z2, by rw [World.cell?_setCell_other _ _ _ _ (fun e => hij (by injection e with _ e2; omega))]; exact hz2⟩
theorem Ov.bs {b n B n' : Nat} {A A' : Option Addr} {l' : List UInt8} {w wr : World} (h : Ov b A n w wr) (hbs : Bs w B A' n' l') (hf : 0 < n → 0 < n' → ∀ ad ad', A = some ad → A' = some ad' → ad'.block ≠ ad.block) : Bs wr B A' n' l' :=
  ⟨hbs.len, fun hn => by
    obtain ⟨b1, off, rfl, hb, hc⟩ := hbs.place hn
    exact ⟨b1, off, rfl, hb, fun k u hu => (h.off ⟨b1, off + k, none⟩ (fun h0 ad e => hf h0 hn ad ⟨b1, off, none⟩ e rfl)).trans (hc k u hu)⟩⟩
theorem Bs.lt_ {w : World} {B n : Nat} {A : Option Addr} {l : List UInt8} (h : Bs w B A n l) (hn : 0 < n) : ∀ ad, A = some ad → ad.block < B := by
  intro ad e
  obtain ⟨g, o, e2, hg, _⟩ := h.place hn
  rw [e] at e2
  injection e2 with e2
  rw [e2]; exact hg
theorem NewB.lt {w : World} {b n : Nat} {A : Option Addr} {l : List UInt8} (h : NewB w b A n l) (hn : 0 < n) : ∀ ad, A = some ad → ad.block < w.heap.size := by
  intro ad e
  obtain ⟨g, o, e2, hg, _⟩ := h.bs.place hn
  rw [e] at e2
  injection e2 with e2
  rw [e2]; exact hg
theorem NewB.up {w w' : World} {b n : Nat} {A : Option Addr} {l : List UInt8} (h : NewB w b A n l) (hb : Below w.heap.size w w') : NewB w' b A n l :=
  ⟨(h.bs.below hb).more hb.size, h.fresh, fun g o e hn => there_below (h.there g o e hn) hb (h.lt hn _ e)⟩
theorem is_same {x y : Vl} {k n : Int} {s : ByteArray} {l : List UInt8} {o i : Int} {b1 b2 : Nat} {w1 w2 : World} (hk : k ≠ 0) (hx : x.Is k n s l o i b1 w1) (hy : y.Is k n s l o i b2 w2) : vlSame x y l l = true := by
  have h1 := hx.k; have h2 := hx.n; have h3 := hx.s; have h4 := hx.o; have h5 := hx.i
  have g1 := hy.k; have g2 := hy.n; have g3 := hy.s; have g4 := hy.o; have g5 := hy.i
  subst h1
  cases x <;> cases y <;> simp only [Vl.k, Vl.n, Vl.s, Vl.o, Vl.i] at * <;> first | (exfalso; omega) | (subst_vars; simp [vlSame, Vl.isB, Vl.eq2]) | skip
  rename_i a b
  cases a <;> cases b <;> simp_all [vlSame, Vl.isB, Vl.eq2]
theorem wire_len (k n : Int) (s : ByteArray) (l : List UInt8) (o i : Int) (hs : s.size ≤ 1000) (hl : l.length ≤ 1000) : (wireQ k n s l o i).length ≤ 1000000 := by
  have hw := width_in n
  unfold wireQ
  split
  · rw [bytesQ_len]; omega
  · split
    · rw [bytesQ_len]; omega
    · split
      · show s.size ≤ _
        omega
      · split
        · omega
        · split
          · rw [List.length_append, bytesQ_len, bytesQ_len]; omega
          · exact Nat.zero_le _
/-- short. -/
def shortB (sl m : Nat) : Bool := decide (sl ≤ 1000 ∧ m ≤ 1000)
set_option maxHeartbeats 4000000 in
theorem short_f (k n : Int) (s : ByteArray) (A : Option Addr) (m c : Nat) (o i : Int) (w : World) : Calls Tryd.prog 22 #[.agg #[.int .i64 k, .int .i64 n, .string s, .slice A m c, .int .i64 o, .int .i64 i]] w fun e w' => e = .returned (.bool (shortB s.size m)) ∧ Below w.heap.size w w' := by
  unfold shortB
  by_cases h1 : s.size ≤ 1000
  · have h1I : (s.size : Int) ≤ 1000 := by omega
    by_cases h2 : m ≤ 1000
    · rw [decide_eq_true ⟨h1, h2⟩]
      have h2I : (m : Int) ≤ 1000 := by omega
      clear h1 h2
      go_enter Tryd.func22, Tryd.ntmps22
      go_wp2
      go_ret
      exact ⟨rfl, alloc_below _ _⟩
    · rw [decide_eq_false (fun h => h2 h.2)]
      have h2I : ¬ (m : Int) ≤ 1000 := by omega
      clear h1 h2
      go_enter Tryd.func22, Tryd.ntmps22
      go_wp2
      go_ret
      exact ⟨rfl, alloc_below _ _⟩
  · rw [decide_eq_false (fun h => h1 h.1)]
    have h1I : ¬ (s.size : Int) ≤ 1000 := by omega
    clear h1
    go_enter Tryd.func22, Tryd.ntmps22
    go_wp2
    go_ret
    exact ⟨rfl, alloc_below _ _⟩
end Go.Proofs.YtkacgdhcacclcaaDoor
