/-
  A value's bytes, and the panic of a value that is none.
-/
import Derived.Test.YtkacgdhcacclcaaDoorVaSame
import Derived.Test.YtkacgdhcacclcaaDoorVaWire
namespace Go.Proofs.YtkacgdhcacclcaaDoor
open Go.RowKit
set_option maxRecDepth 100000
set_option maxRecDepth 100000
set_option linter.unusedVariables false
theorem NewB.set {w : World} {b n g : Nat} {A : Option Addr} {l : List UInt8} (h : NewB w b A n l) (hg : g < b) (o : Nat) (x : Value) : NewB (w.setCell ⟨g, o, none⟩ x) b A n l := by
  refine ⟨?_, h.fresh, fun g' o' e hn => there_set (h.there g' o' e hn) _ _⟩
  rw [World.size_setCell]
  exact h.bs.keepOff (g := g) (fun ad e => by have := h.fresh ad e; omega) fun p hp hne => World.cell?_setCell_other _ _ _ _ (fun e => hne (by rw [← e]))
theorem must_bytes (v : Vl) (l : List UInt8) (w : World) (B : Nat) (hbs : Bs w B v.a v.l l) (hB : B ≤ w.heap.size) (hm : v.l ≤ 1000000) (h : v.isB = true) :
    Calls Tryd.prog 52 #[v.val] w (RetOwn 5 l w) := by
  have c1 := fun W => asBytes_f v W
  have cC := clone_f v.a v.l v.c l w B hbs hB (by omega)
  rw [h] at c1
  generalize v.val = av at *
  generalize v.a = A at *
  generalize v.l = m at *
  generalize v.c = c at *
  clear hbs hB hm h
  go_enter Tryd.func52, Tryd.ntmps52
  go_wp2_with fail
  refine (c1 _).mono ?_
  rintro e w1 ⟨rfl, hw⟩
  obtain rfl := hw.symm
  go_wp2_with fail
  refine cC.mono ?_
  rintro e w2 ⟨x, rfl, h1, h2⟩
  obtain ⟨A2, c2, rfl, hc2⟩ := own_slice h1
  have HH := Lib.hid (And.intro h1 h2)
  clear h1 h2
  go_wp2
  go_ret
  exact ⟨_, rfl, HH.out.1, HH.out.2⟩
theorem must_panics (v : Vl) (w : World) (h : v.isB = false) :
    Calls Tryd.prog 52 #[v.val] w fun e w' => (∃ pv u, e = .panicked [{ v := .iface u pv, recovered := false }]) ∧ w' = w := by
  have c1 := fun W => asBytes_f v W
  rw [h] at c1
  generalize v.val = av at *
  generalize v.a = A at *
  generalize v.l = m at *
  generalize v.c = c at *
  clear h
  go_enter Tryd.func52, Tryd.ntmps52
  go_wp2_with fail
  refine (c1 _).mono ?_
  rintro e w1 ⟨rfl, hw⟩
  obtain rfl := hw.symm
  go_wp2
  exact ⟨rfl, ⟨_, _, rfl⟩, rfl⟩
theorem mcatch_panicking (p q : Addr) (x y : Value) (u : TypeId) (pv : Value) (older : List PanicEntry) (w : World) (hc : w.cell? p = some x) (hz : w.frozen? p = false) (hc2 : w.cell? q = some y) (hz2 : w.frozen? q = false) (hne : p ≠ q) :
    CallsD Tryd.prog 51 #[.pointer (some p), .pointer (some q)] (.panicking ({ v := .iface u pv, recovered := false } :: older)) w fun e u' w' =>
      e = .returned (.tuple #[]) ∧ u' = .panicking ({ v := .iface u pv, recovered := true } :: older) ∧ w' = (w.setCell p (.slice none 0 0)).setCell q (.bool true) := by
  have hc3 : (w.setCell p (.slice none 0 0)).cell? q = some y := (World.cell?_setCell_other _ _ _ _ hne).trans hc2
  refine callsD_of_wpS Tryd.func51 rfl fun c₀ cs hu => ?_
  apply wpS_seq
  apply wpS_region
  simp [wpOpsS, go_sem, recoverD, hu, Tryd.ntmps51, Exit.thenS]
  refine wpS_cond (t := true) (by simp [Act.eval, Array.replicate]) ?_
  simp only [if_true]
  apply wpS_region
  simp [wpOpsS, go_sem, hc, hz, hz2, hc3, bodyPostS, results, Tryd.results51]
theorem mcatch_idle (p q : Addr) (w : World) :
    CallsD Tryd.prog 51 #[.pointer (some p), .pointer (some q)] .returning w fun e u' w' => e = .returned (.tuple #[]) ∧ u' = .returning ∧ w' = w := by
  refine callsD_of_wpS Tryd.func51 rfl fun c₀ cs hu => ?_
  apply wpS_seq
  apply wpS_region
  simp [wpOpsS, go_sem, recoverD, hu, Tryd.ntmps51, Exit.thenS]
  refine wpS_cond (t := false) (by simp [Act.eval, Array.replicate]) ?_
  simp only [Bool.false_eq_true, if_false]
  refine wpS_of_wp (wp_skip ?_)
  cases c₀
  simp_all [bodyPostS, results, Tryd.results51]
theorem must_no (v : Vl) (w : World) (h : v.isB = false) :
    Calls Tryd.prog 26 #[v.val] w fun e w' => e = .returned (.tuple #[.slice none 0 0, .bool true]) ∧ Below w.heap.size w w' := by
  have cM := fun W => must_panics v W h
  generalize v.val = av at *
  clear h
  have hmf : ∀ (fn : Fn) (first cap : Array Value) (w : World), (Instr.makeFunc fn first cap).run Tryd.prog w = .ok (.func fn first cap) w := fun _ _ _ _ => rfl
  go_enter_defers Tryd.func26, Tryd.ntmps26
  go_wp2_with fail
  refine (cM _).mono ?_
  rintro e w1 ⟨⟨pv, u, rfl⟩, hw⟩
  obtain rfl := hw.symm
  refine leaves_cons (f := 51) (args := #[.pointer (some ⟨w.heap.size, 0, none⟩), .pointer (some ⟨w.heap.size + 1, 0, none⟩)]) (by simp) (by simp [go_sem]) ?_
  refine (mcatch_panicking ⟨w.heap.size, 0, none⟩ ⟨w.heap.size + 1, 0, none⟩ (.slice none 0 0) (.bool false) u pv [] _ ?_ ?_ ?_ ?_ ?_).mono ?_
  · simp [go_sem]
  · simp [go_sem]
  · simp [go_sem]
  · simp [go_sem]
  · simp
  rintro e u' w'' ⟨rfl, rfl, rfl⟩
  simp [Leaves, settle, results, Tryd.results26, go_sem]
  exact ((Below.refl _ _).alloc (Nat.le_refl _) _).alloc (by rw [alloc_size]; omega) _
def MustRet (l : List UInt8) (w : World) (e : Ending) (w' : World) : Prop :=
  ∃ A n c, e = .returned (.tuple #[.slice A n c, .bool false]) ∧ n ≤ c ∧ n = l.length ∧ NewB w' w.heap.size A n l ∧ Below w.heap.size w w'
theorem must_yes (v : Vl) (l : List UInt8) (w : World) (B : Nat) (hbs : Bs w B v.a v.l l) (hB : B ≤ w.heap.size) (hm : v.l ≤ 1000000) (h : v.isB = true) :
    Calls Tryd.prog 26 #[v.val] w (MustRet l w) := by
  have cM := fun W (hb : Below w.heap.size w W) => must_bytes v l W B (hbs.below' hb hB) (by have := hb.size; omega) hm h
  generalize v.val = av at *
  clear h hbs hB hm
  have hmf : ∀ (fn : Fn) (first cap : Array Value) (w : World), (Instr.makeFunc fn first cap).run Tryd.prog w = .ok (.func fn first cap) w := fun _ _ _ _ => rfl
  go_enter_defers Tryd.func26, Tryd.ntmps26
  go_wp2_with fail
  have hb0 : Below w.heap.size w ((w.alloc (.cells #[.slice none 0 0] 22)).alloc (.cells #[.bool false] 4)) := ((Below.refl _ _).alloc (Nat.le_refl _) _).alloc (by rw [alloc_size]; omega) _
  refine (cM _ hb0).mono ?_
  rintro e w1 ⟨x, rfl, h1, h2⟩
  obtain ⟨A2, c2, rfl, hc2⟩ := own_slice h1
  have hN := NewB.of_own h1
  have hz0 : ((w.alloc (.cells #[.slice none 0 0] 22)).alloc (.cells #[.bool false] 4)).heap.size = w.heap.size + 2 := by rw [alloc_size, alloc_size]
  rw [hz0] at hN h2
  have p2 : w1.cell? ⟨w.heap.size, 0, none⟩ = some (.slice none 0 0) := (h2.cell (p := ⟨w.heap.size, 0, none⟩) (show w.heap.size < _ by omega)).trans (by simp [go_sem])
  have p3 : w1.cell? ⟨w.heap.size + 1, 0, none⟩ = some (.bool false) := (h2.cell (p := ⟨w.heap.size + 1, 0, none⟩) (show w.heap.size + 1 < _ by omega)).trans (by simp [go_sem])
  have q2 : w1.frozen? ⟨w.heap.size, 0, none⟩ = false := (h2.frozen (p := ⟨w.heap.size, 0, none⟩) (show w.heap.size < _ by omega)).trans (by simp [go_sem])
  have q3 : w1.frozen? ⟨w.heap.size + 1, 0, none⟩ = false := (h2.frozen (p := ⟨w.heap.size + 1, 0, none⟩) (show w.heap.size + 1 < _ by omega)).trans (by simp [go_sem])
  have p4 : ((w1.setCell ⟨w.heap.size, 0, none⟩ (.slice A2 l.length c2)).setCell ⟨w.heap.size + 1, 0, none⟩ (.bool false)).cell? ⟨w.heap.size, 0, none⟩ = some (.slice A2 l.length c2) := (World.cell?_setCell_other _ _ _ _ (by simp)).trans (World.cell?_setCell_same _ _ _ p2)
  have p5 : ((w1.setCell ⟨w.heap.size, 0, none⟩ (.slice A2 l.length c2)).setCell ⟨w.heap.size + 1, 0, none⟩ (.bool false)).cell? ⟨w.heap.size + 1, 0, none⟩ = some (.bool false) := World.cell?_setCell_same _ _ _ ((World.cell?_setCell_other _ _ _ _ (by simp)).trans p3)
  have hM : MustRet l w (.returned (.tuple #[.slice A2 l.length c2, .bool false])) ((w1.setCell ⟨w.heap.size, 0, none⟩ (.slice A2 l.length c2)).setCell ⟨w.heap.size + 1, 0, none⟩ (.bool false)) :=
    ⟨A2, _, c2, rfl, hc2, rfl, ((hN.2.set (by omega) 0 _).set (by omega) 0 _).less (by omega), ((hb0.trans (h2.mono (by omega))).setCell (Nat.le_refl _) _).setCell (show w.heap.size ≤ w.heap.size + 1 by omega) _⟩
  have HH := Lib.hid (And.intro p4 (And.intro p5 hM))
  clear h1 h2 hN hz0 hb0 p4 p5 hM hc2
  obtain ⟨N, hN⟩ : ∃ N, l.length = N := ⟨_, rfl⟩
  simp only [hN] at HH ⊢
  clear hN
  go_wp2
  refine leaves_cons (f := 51) (args := #[.pointer (some ⟨w.heap.size, 0, none⟩), .pointer (some ⟨w.heap.size + 1, 0, none⟩)]) (by simp) (by simp [go_sem]) ?_
  refine (mcatch_idle ⟨w.heap.size, 0, none⟩ ⟨w.heap.size + 1, 0, none⟩ _).mono ?_
  rintro e u' w'' ⟨rfl, rfl, rfl⟩
  obtain ⟨r4, r5, r6⟩ := HH.out
  clear HH p2 p3 q2 q3
  generalize (w1.setCell ⟨w.heap.size, 0, none⟩ (.slice A2 N c2)).setCell ⟨w.heap.size + 1, 0, none⟩ (.bool false) = w5 at *
  simp [Leaves, settle, results, Tryd.results26, go_sem, r4, r5]
  exact r6
end Go.Proofs.YtkacgdhcacclcaaDoor
