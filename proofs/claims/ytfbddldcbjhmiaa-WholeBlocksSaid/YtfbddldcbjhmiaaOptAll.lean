/-
  The values of a number.
-/
import Derived.Test.YtfbddldcbjhmiaaOptGet
namespace Go.Proofs.Ytfbddldcbjhmiaa
open Go.RowKit
set_option maxRecDepth 100000
set_option linter.unusedVariables false
def getB (num : Int) (ps : List (Int × List UInt8)) : List UInt8 × Bool := match ps.find? (fun x => x.1 == num) with | some x => (x.2, true) | none => ([], false)
set_option maxHeartbeats 2000000 in
theorem get_f (num : Int) (A : Option Addr) (n c : Nat) (vs : List Sv) (ps : List (Int × List UInt8)) (w : World) (B : Nat) (hos : Os w B A n vs ps) (hB : B ≤ w.heap.size) (hn : n ≤ 1048576) (hmx : ∀ x ∈ ps, x.2.length ≤ 1048576) :
    Calls Try.prog 12 #[.slice A n c, .int .i64 num] w fun e w' => ∃ A' n' c', e = .returned (.tuple #[.slice A' n' c', .bool (getB num ps).2]) ∧ Hid (n' = (getB num ps).1.length) ∧ Bs w' w'.heap.size A' n' (getB num ps).1 ∧ Below w.heap.size w w' := by
  have hnI : (n : Int) ≤ 1048576 := by omega
  have hof := of_f num w
  have hidx := fun W (b : Below w.heap.size w W) (l : w.heap.size < W.heap.size) (hcl : W.cell? ⟨w.heap.size, 0, none⟩ = some (.int .i64 num)) => index_f 75 #[.pointer (some ⟨w.heap.size, 0, none⟩)] (fun s => s.k == num) fn_of A n c vs W B (hos.sh.below' b hB) (Nat.le_trans hB b.size) (by omega) (pred_of w.heap.size num W l hcl)
  rcases idxP_cases (fun s => s.k == num) vs with ⟨h1, h2⟩ | ⟨k, s, h1, h2, h3, h4⟩
  · have hg : getB num ps = ([], false) := by
      unfold getB
      have : ps.find? (fun x => x.1 == num) = none := by
        rw [List.find?_eq_none]
        intro x hx
        rw [← hos.eq] at hx
        obtain ⟨s, hs, rfl⟩ := List.mem_map.1 hx
        have := h2 s hs
        show ¬ (s.k == num) = true
        rw [this]; decide
      rw [this]
    rw [hg]
    have HI : Aside _ := hidx
    clear hidx hos h2
    go_enter Try.func12, Try.ntmps12
    go_wp2_with fail
    refine hof.mono ?_
    rintro e w1 ⟨rfl, b1, l1, c1⟩
    have hcall := HI.out w1 b1 l1 c1
    rw [h1] at hcall
    have H1 : Aside _ := b1
    clear h1 hof b1 c1
    go_wp2_with (go_at_call 35; refine hcall.mono ?_; rintro e w2 ⟨rfl, b2⟩)
    go_ret2
    exact ⟨none, 0, 0, rfl, rfl, Bs.empty _ _ _, H1.out.trans (b2.mono H1.out.size)⟩
  · have hkn : k < n := by have := (List.getElem?_eq_some_iff.1 h2).1; have := hos.sh.len; omega
    obtain ⟨l, hl, hb⟩ := hos.get h2
    have hg : getB num ps = (l, true) := by
      unfold getB
      have : ps.find? (fun x => x.1 == num) = some (s.k, l) := by
        rw [List.find?_eq_some_iff_getElem]
        obtain ⟨hkl, e⟩ := List.getElem?_eq_some_iff.1 hl
        refine ⟨h3, k, hkl, e, fun j hj => ?_⟩
        obtain ⟨t, ht⟩ := sv_get hos.sh (k := j) (by omega)
        obtain ⟨l', hl', _⟩ := hos.get ht
        have e2 : ps[j] = (t.k, l') := by
          have := List.getElem?_eq_getElem (l := ps) (i := j) (by omega)
          rw [this] at hl'
          exact Option.some.inj hl'
        rw [e2]
        have := h4 j t hj ht
        show (!(t.k == num)) = true
        rw [this]; rfl
      rw [this]
    rw [hg]
    have hmx' := hmx _ (List.mem_of_getElem? hl)
    have hsn := hb.len
    have hsnI : s.n ≤ 1048576 := by simp only at hmx'; omega
    have HI : Aside _ := And.intro hidx (And.intro hos (And.intro hb h2))
    obtain ⟨b, off, rfl, hbl, _⟩ := hos.sh.place (by omega)
    have hkI : (k : Int) < n := by omega
    have hk0 : (0 : Int) ≤ k := by omega
    clear hidx hos h2 h3 h4 hb hl hmx hmx' hsn hg
    go_enter Try.func12, Try.ntmps12
    go_wp2_with fail
    refine hof.mono ?_
    rintro e w1 ⟨rfl, b1, l1, c1⟩
    have hcall := HI.out.1 w1 b1 l1 c1
    rw [h1] at hcall
    have H1 : Aside _ := b1
    clear h1 hof b1 c1
    go_wp2_with fail
    refine hcall.mono ?_
    rintro e w2 ⟨rfl, b2⟩
    have bw2 := H1.out.trans (b2.mono H1.out.size)
    have hr := ((HI.out.2.1.below' bw2 hB).sh.range HI.out.2.2.2)
    have c1 : w2.cell? ⟨b, off + k * 2 + 1, none⟩ = some (.slice s.A s.n s.c) := hr 1 _ rfl
    have hcl := bclone_f s.A s.n s.c l w2 B (HI.out.2.2.1.below' bw2 hB) (Nat.le_trans hB bw2.size) (by omega)
    have H2 : Aside _ := bw2
    clear bw2 hr b2 hcall
    obtain ⟨sk, sA, sn, sc⟩ := s
    dsimp only at c1 hcl
    go_wp2_with (go_at_call 31; refine hcl.mono ?_; intro e w3 h3; have h3' := h3.slice_; obtain ⟨A3, n3, c3, rfl, x3, y3, z3, b3⟩ := h3'; have H3 : Aside _ := And.intro y3 (And.intro z3 b3); clear h3 x3 y3 z3 b3)
    go_ret2
    exact ⟨_, _, _, rfl, H3.out.1, H3.out.2.1, H2.out.trans (H3.out.2.2.mono H2.out.size)⟩
/-- Bytes in rows of the call's own. -/
def Rb (w : World) (base : Nat) (us : List Value) (ls : List (List UInt8)) : Prop :=
  us.length = ls.length ∧ ∀ (i : Nat) (u : Value) (l : List UInt8), us[i]? = some u → ls[i]? = some l → w.ownsRow base 5 1 u l.length (U8 l)
theorem Rb.kept {w w' : World} {base : Nat} {us : List Value} {ls : List (List UInt8)} (h : Rb w base us ls) (h2 : ∀ (g : Nat) (cs : Array Value), w.heap[g]? = some (.cells cs 5 (0, 0)) → w'.heap[g]? = w.heap[g]?) : Rb w' base us ls :=
  ⟨h.1, fun i u l hu hl => row_kept (h.2 i u l hu hl) fun g cs _ hb => h2 g cs hb⟩
theorem Rb.below {w w' : World} {base : Nat} {us : List Value} {ls : List (List UInt8)} (h : Rb w base us ls) (hb : Below w.heap.size w w') : Rb w' base us ls := h.kept fun g cs hg => hb.block g (Array.getElem?_eq_some_iff.1 hg).1
theorem Rb.grown {w w' : World} {base n : Nat} {us : List Value} {ls : List (List UInt8)} {v : Value} {xs : List Value} (h : Rb w base us ls) (ho : w.ownsRow base 22 1 v n xs) (hg : w.grownBy w' v.ownBlock) : Rb w' base us ls := h.kept fun g cs hb => hg.block g (Array.getElem?_eq_some_iff.1 hb).1 (fun e => by
  rcases ho.2 with ⟨rfl, _⟩ | ⟨g', cap, cur, rfl, _, h4, _⟩
  · cases e
  · have e' : g = g' := by injection e
    subst e'
    rw [hb] at h4
    injection h4 with h4
    injection h4 with _ h4
    exact absurd h4 (by decide))
theorem Rb.push {w : World} {base : Nat} {us : List Value} {ls : List (List UInt8)} {u : Value} {l : List UInt8} (h : Rb w base us ls) (hu : w.ownsRow base 5 1 u l.length (U8 l)) : Rb w base (us ++ [u]) (ls ++ [l]) := by
  refine ⟨by simp [h.1], fun i t y ht hy => ?_⟩
  have hl := h.1
  by_cases hi : i < us.length
  · rw [List.getElem?_append_left hi] at ht
    rw [List.getElem?_append_left (by omega)] at hy
    exact h.2 i t y ht hy
  · have hi2 : i = us.length := by
      have := (List.getElem?_eq_some_iff.1 ht).1
      simp at this; omega
    subst hi2
    rw [List.getElem?_append_right (Nat.le_refl _), Nat.sub_self] at ht
    rw [hl, List.getElem?_append_right (Nat.le_refl _), Nat.sub_self] at hy
    obtain rfl := Option.some.inj ht
    obtain rfl := Option.some.inj hy
    exact hu
theorem Rb.pc {w : World} {base n : Nat} {us : List Value} {ls : List (List UInt8)} {v : Value} (h : Rb w base us ls) (ho : w.ownsRow base 22 1 v n us) : ∃ A c, v = .slice A n c ∧ n ≤ c ∧ Pc w w.heap.size A n ls := by
  have hul : us.length = n := by have := ho.1; omega
  have ho' := ho
  rcases ho.2 with ⟨rfl, hn⟩ | ⟨g, cap, cur, rfl, hbg, hg, hnc, _, hcs, htake⟩
  · subst hn
    have : ls = [] := List.eq_nil_of_length_eq_zero (by rw [← h.1, hul])
    subst this
    exact ⟨none, 0, rfl, Nat.le_refl _, Pc.none _ _ _⟩
  · refine ⟨_, cap, rfl, hnc, by rw [← h.1, hul], fun hn => ⟨g, 0, rfl, (Array.getElem?_eq_some_iff.1 hg).1, fun i l hl => ?_⟩⟩
    have hil := (List.getElem?_eq_some_iff.1 hl).1
    obtain ⟨u, hu⟩ : ∃ u, us[i]? = some u := ⟨_, List.getElem?_eq_getElem (by rw [h.1]; exact hil)⟩
    obtain ⟨A', c', rfl, hc', hb⟩ := Bs.of_own (h.2 i u l hu hl)
    exact ⟨A', _, c', by rw [Nat.zero_add, ho'.cellAt i (by rw [h.1] at hul; omega)]; exact hu, hc', hb⟩
theorem info_sl : (Try.prog.info? 22).map (fun i => (i.zero, i.size, i.bytes)) = some (some (.slice none 0 0), 1, 24) := by kernel_rfl
def allO (num : Int) (ps : List (Int × List UInt8)) : List (List UInt8) := (ps.filter fun x => x.1 == num).map (·.2)
theorem allO_step {num : Int} {ps : List (Int × List UInt8)} {k : Nat} {x : Int × List UInt8} (h : ps[k]? = some x) : allO num (ps.take (k + 1)) = allO num (ps.take k) ++ (if (x.1 == num) = true then [x.2] else []) := by
  unfold allO
  rw [List.take_add_one, h, List.filter_append, List.map_append]
  congr 1
  cases e : (x.1 == num) <;> simp [List.filter, e]
/-- Pieces returned. -/
def RetPc (ls : List (List UInt8)) (w : World) (e : Ending) (w' : World) : Prop :=
  ∃ A n c, e = .returned (.slice A n c) ∧ n ≤ c ∧ Hid (n = ls.length) ∧ Pc w' w'.heap.size A n ls ∧ Below w.heap.size w w'
theorem of_b (num : Int) (w : World) : Calls Try.prog 45 #[.int .i64 num] w fun e w' => e = .returned (.func (.func 75) #[] #[.pointer (some ⟨w.heap.size, 0, none⟩)]) ∧ Below w.heap.size w w' ∧ w'.heap[w.heap.size]? = some (.cells #[.int .i64 num] 3 (0, 0)) := by
  go_enter Try.func45, Try.ntmps45
  go_wp2
  go_ret
  exact ⟨rfl, (Below.refl _ _).alloc (Nat.le_refl _) _, heap_alloc_new w _⟩
theorem cap_cell {w : World} {b : Nat} {num : Int} (h : w.heap[b]? = some (.cells #[.int .i64 num] 3 (0, 0))) : b < w.heap.size ∧ w.cell? ⟨b, 0, none⟩ = some (.int .i64 num) :=
  ⟨(Array.getElem?_eq_some_iff.1 h).1, by rw [cell_of_row _ _ _ _ _ _ h]; rfl⟩
theorem cap_ne {w : World} {b base size n : Nat} {num : Int} {e : TypeId} {v : Value} {xs : List Value} (h : w.heap[b]? = some (.cells #[.int .i64 num] 3 (0, 0))) (ho : w.ownsRow base e size v n xs) (he : e ≠ 3) : some b ≠ v.ownBlock := fun e1 => by
  rcases ho.2 with ⟨rfl, _⟩ | ⟨g', cap, cur, rfl, _, h4, _⟩
  · cases e1
  · have e' : b = g' := by injection e1
    subst e'
    rw [h] at h4
    injection h4 with h4
    injection h4 with _ h4
    exact he h4.symm
end Go.Proofs.Ytfbddldcbjhmiaa
